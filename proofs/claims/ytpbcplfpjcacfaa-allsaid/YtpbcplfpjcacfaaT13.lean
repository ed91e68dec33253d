import Derived.Test.YtpbcplfpjcacfaaF04
import Derived.Test.YtpbcplfpjcacfaaT11
import Derived.Test.YtpbcplfpjcacfaaT12
namespace Go.Proofs.Ytpbcplfpjcacfaa
open Go.RowKit
set_option maxRecDepth 100000
set_option maxHeartbeats 8000000
theorem end_any {N:Nat} (r:Nat) (st:RS) (own:Own) (x:Wh) (back:Bool) (why:Int) (w:World) (hm:Rep w r st own) (F:st.Fit N) (hx:∃ t∈st.txns,t.who=x) :
  Calls Try.prog 90 #[.pointer (some ⟨r,0,none⟩),.agg #[.int .i64 x.1,.int .i64 x.2.1,.int .i64 x.2.2],.bool back,.int .i64 why] w fun e w'=>e=.returned (.tuple #[])∧Goes own w w' r (st.ends x back why):=by
 obtain ⟨n,t,hn,ht,hl⟩:=F.liveAt hx
 have h1:=F.plcL
 have h2:=F.oldsL (List.mem_of_getElem? hn)
 have h3:=F.txnsL
 have h4:=F.recL
 have h5:=F.endL
 rw [← ends_eq F.uniq hn ht]
 cases back
 ·exact end_false r st own x why n t w hm hl hn (by omega) (by omega) (by omega) (by omega)
 ·exact end_true r st own x why n t w hm hl hn (by omega) (by omega) (by omega) (by omega)
theorem clearN_none {rc:Rc} {st:RS} (h:∀ c∈st.recs,clrP rc c=false):∀ f,RS.clearN rc f st=st
 | 0=>rfl
 | f+1=>by
  unfold RS.clearN
  rw [List.find?_eq_none.2 (fun c hc=>by rw [h c hc]; simp)]
theorem clearN_more {N:Nat} {rc:Rc}:∀ (f g:Nat) (st:RS),st.Fit N→st.recs.length≤f→st.recs.length≤g→RS.clearN rc f st=RS.clearN rc g st:=by
 intro f
 induction f with
 | zero =>
  intro g st F hf hg
  have:st.recs=[]:=List.eq_nil_of_length_eq_zero (by omega)
  rw [clearN_none (fun c hc=>by rw [this] at hc; cases hc),clearN_none (fun c hc=>by rw [this] at hc; cases hc)]
 | succ f ih =>
  intro g st F hf hg
  cases h:st.recs.find? (clrP rc) with
  | none =>
   have hno:∀ c∈st.recs,clrP rc c=false:=fun c hc=>by have:=List.find?_eq_none.1 h c hc; simpa using this
   rw [clearN_none hno,clearN_none hno]
  | some a =>
   have ha:a∈st.recs:=List.mem_of_find?_eq_some h
   have hlt:=ends_recs_lt (F.backed a ha) ha true 1
   match g,hg with
   | 0,hg=>omega
   | g+1,hg =>
    show (match st.recs.find? (clrP rc) with | none=>st | some a=>RS.clearN rc f (st.ends a.who true 1))=(match st.recs.find? (clrP rc) with | none=>st | some a=>RS.clearN rc g (st.ends a.who true 1))
    rw [h]
    exact ih g _ (F.ends _ _ _) (by omega) (by omega)
theorem clearN_hit {N:Nat} {rc:Rc} {st:RS} (F:st.Fit N) {k:Nat} {c:Rc} (hk:st.recs[k]?=some c) (hn:∀ y∈st.recs.take k,clrP rc y=false) (hc:clrP rc c=true) :
  RS.clearN rc st.recs.length st=RS.clearN rc (st.ends c.who true 1).recs.length (st.ends c.who true 1):=by
 have hl:st.recs=st.recs.take k++c :: st.recs.drop (k+1):=by rw [← drop_at hk,List.take_append_drop]
 have hf:st.recs.find? (clrP rc)=some c:=by
  rw [hl,List.find?_append,List.find?_eq_none.2 (fun y hy=>by rw [hn y hy]; simp)]; simp [hc]
 have hcm:=List.mem_of_getElem? hk
 have hlt:=ends_recs_lt (F.backed c hcm) hcm true 1
 obtain ⟨m,hm⟩:∃ m,st.recs.length=m+1:=⟨st.recs.length - 1,by omega⟩
 rw [hm]
 show (match st.recs.find? (clrP rc) with | none=>st | some a=>RS.clearN rc m (st.ends a.who true 1))=_
 rw [hf]
 exact clearN_more _ _ _ (F.ends _ _ _) (by omega) (Nat.le_refl _)
def ClrInv (N:Nat) (own:Own) (w0:World) (r:Nat) (st:RS) (rc:Rc) (k:Nat) (wr:World):Prop :=
 ∃ st' own',k≤st'.recs.length∧Rep wr r st' own'∧st'.Fit N∧Chg own w0 wr own'∧(∀ c∈st'.recs.take k,clrP rc c=false)∧RS.clearN rc st'.recs.length st'=RS.clearN rc st.recs.length st
def recLen (r:Nat) (w:World):Nat:=match w.cell? ⟨r,5,none⟩ with
 | some (.slice _ n _)=>n
 | _=>0
theorem Rep.recLen {w:World} {r:Nat} {st:RS} {own:Own} (h:Rep w r st own):recLen r w=st.recs.length:=by
 obtain ⟨g,vp,vt,vr,ve,m⟩:=h
 obtain ⟨ao,cap,rfl,_,_⟩:=m.recs.form len_recC
 unfold Go.Proofs.Ytpbcplfpjcacfaa.recLen
 rw [root_cell m.root]; rfl
theorem size108:(Try.prog.info? 108).map (·.size)=some 10:=by kernel_rfl
theorem recC_one (c:Rc):(recC c).toArray.all (·.oneCell')=true:=by simp [recC,Value.oneCell']
theorem Chg.cellAt {own own':Own} {w w':World} (h:Chg own w w' own') {b:Nat} (hb:own b=none) (hlt:b < w.heap.size) (j:Nat):w'.cell? ⟨b,j,none⟩=w.cell? ⟨b,j,none⟩:=World.cell?_of_block (h.block b hlt hb)
theorem rangeAt_chg {own own':Own} {w w':World} (h:Chg own w w' own') {b o:Nat} {cs:List Value} (hb:own b=none) (hlt:b < w.heap.size) (hr:w.rangeAt b o cs):w'.rangeAt b o cs:=fun j u hj=>by
 rw [h.cellAt hb hlt]; exact hr j u hj
theorem clr_measure {a b c d:Nat} (h:a < b):a*(a+2)+(a - c) < b*(b+2)+(b - d):=by
 have h1:(a+1)*(a+1+2)≤b*(b+2):=Nat.mul_le_mul h (by omega)
 have h2:(a+1)*(a+1+2)=a*(a+2)+a+(a+3):=by
  rw [Nat.add_mul,show a+1+2=(a+2)+1 by omega,Nat.mul_add]; omega
 omega
theorem cleared_any {N:Nat} (r:Nat) (st:RS) (own:Own) (rc:Rc) (w:World) (hm:Rep w r st own) (F:st.Fit N) :
  Calls Try.prog 111 #[.pointer (some ⟨r,0,none⟩),recV rc] w fun e w'=>e=.returned (.tuple #[])∧Goes own w w' r (st.clearT rc):=by
 have hfr:=hm.fresh
 have hA:Below w.heap.size w (w.alloc (.cells (recC rc).toArray 108)):=(Below.refl _ _).alloc (Nat.le_refl _) _
 unfold recV
 cases hwr:rc.write
 ·go_enter Try.func111,Try.ntmps111
  go_wp2
  refine bodyPost_ret (v:=.tuple #[]) (by simp [results,Try.results111,go_sem]) rfl ⟨rfl,?_⟩
  unfold RS.clearT; rw [hwr]
  simp only [recC,hwr] at hA
  exact ⟨own,hm.below hA,Chg.of_below hA⟩
 ·have HCT:Hid (st.clearT rc=RS.clearN rc st.recs.length st):=by unfold Hid RS.clearT; rw [hwr]; rfl
  go_enter Try.func111,Try.ntmps111
  go_wp2_with fail
  simp only [recC,hwr] at hA
  have hX0:(w.alloc (.cells #[.int .i64 rc.who.1,.int .i64 rc.who.2.1,.int .i64 rc.who.2.2,.int .i64 rc.at_.1,.int .i64 rc.at_.2,.int .i64 rc.lo,.int .i64 rc.hi,.bool true,.bool rc.waits,.int .i64 rc.came] 108)).rangeAt w.heap.size 0 (recC rc):=by
   intro j u hj
   rw [World.cell?_alloc_new]
   simpa [recC,hwr] using hj
  have hzA:(w.alloc (.cells #[.int .i64 rc.who.1,.int .i64 rc.who.2.1,.int .i64 rc.who.2.2,.int .i64 rc.at_.1,.int .i64 rc.at_.2,.int .i64 rc.lo,.int .i64 rc.hi,.bool true,.bool rc.waits,.int .i64 rc.came] 108)).heap.size=w.heap.size+1:=by simp
  generalize w.alloc (.cells #[.int .i64 rc.who.1,.int .i64 rc.who.2.1,.int .i64 rc.who.2.2,.int .i64 rc.at_.1,.int .i64 rc.at_.2,.int .i64 rc.lo,.int .i64 rc.hi,.bool true,.bool rc.waits,.int .i64 rc.came] 108)=wA at *
  have HX0:Hid (wA.rangeAt w.heap.size 0 (recC rc)):=hX0
  have HzA:Hid (wA.heap.size=w.heap.size+1):=hzA
  have hA0:Hid (ClrInv N own wA r st rc 0 wA):=⟨st,own,Nat.zero_le _,hm.below hA,F,Chg.of_below (Below.refl _ _),(fun c hc=>by simp at hc),rfl⟩
  clear hX0 hzA
  go_loopw [4] (fun i wr=>∃ k:Nat,i=.int .i64 k∧Hid (ClrInv N own wA r st rc k wr)) (fun i wr=>recLen r wr*(recLen r wr+2)+(recLen r wr - (intOf i).toNat))
  case atStart=>exact ⟨0,rfl,hA0⟩
  case round =>
   obtain ⟨k,rfl,HI⟩:=hrel
   obtain ⟨st',own',hk,hrep',F',hC',hN',hE'⟩:=HI.out
   have hlen':=hrep'.recLen
   have HR':Hid (Rep wr r st' own'):=hrep'
   have HC':Hid (Chg own wA wr own'):=hC'
   have HN':Hid (∀ c∈st'.recs.take k,clrP rc c=false):=hN'
   have HE':Hid (RS.clearN rc st'.recs.length st'=RS.clearN rc st.recs.length st):=hE'
   have HLn:Hid (recLen r wr=st'.recs.length):=hlen'
   have hL:=F'.recL
   obtain ⟨g,vp,vt,vr,ve,m⟩:=hrep'
   obtain ⟨ao,cap,rfl,hmax,hel⟩:=m.recs.form len_recC
   have c5:wr.cell? ⟨r,5,none⟩=some (.slice ao st'.recs.length cap):=by rw [root_cell m.root]; rfl
   have hXr:wr.rangeAt w.heap.size 0 (recC rc):=rangeAt_chg hC' (hfr _ (Nat.le_refl _)) (by have:=HzA.out; omega) HX0.out
   obtain ⟨x0,x1,x2,x3,x4,x5,x6,x7,x8,x9⟩:=rec_cells hXr
   have hzw:w.heap.size < wr.heap.size:=by have:=hC'.size; have:=HzA.out; omega
   by_cases hlt:k < st'.recs.length
   ·obtain ⟨bt,rfl,_,hbt,hrg,_⟩:=hel k _ (List.getElem?_eq_getElem hlt)
    have gk:=List.getElem?_eq_getElem hlt
    generalize st'.recs[k]=y at hrg gk
    have Gk:Hid (st'.recs[k]?=some y):=gk
    have zk:(k:Int) < (st'.recs.length:Int):=by omega
    have hsr:=fun (c c':Array Value) (ty:Nat)=>World.setRow_alloc_new wr c c' ty
    have HXr:Hid (wr.rangeAt w.heap.size 0 (recC rc)):=hXr
    clear hXr hel gk m hC' hN' hE' hlen' HI
    have HO:Hid ((recC y).toArray.all (·.oneCell')=true):=recC_one y
    obtain ⟨yc,hyc⟩:∃ l,l=recC y:=⟨_,rfl⟩
    rw [← hyc] at hrg
    have HL10:Hid (yc.length=10):=by rw [hyc]; rfl
    have HO1:Hid (yc.toArray.all (·.oneCell')=true):=by rw [hyc]; exact recC_one y
    have Hyc:Hid (yc=recC y):=hyc
    have Hrg:Hid (wr.rangeAt bt (k*10) yc):=hrg
    clear hyc hrg
    have q0:yc.toArray[0]?=some (.int .i64 y.who.1):=by rw [Hyc.out]; rfl
    have q1:yc.toArray[1]?=some (.int .i64 y.who.2.1):=by rw [Hyc.out]; rfl
    have q8:yc.toArray[8]?=some (.bool y.waits):=by rw [Hyc.out]; rfl
    have hAY:Below wr.heap.size wr (wr.alloc (.cells yc.toArray 108)):=(Below.refl _ _).alloc (Nat.le_refl _) _
    have hNext:∀ w',Below wr.heap.size wr w'→clrP rc y=false→Hid (ClrInv N own wA r st rc (k+1) w'):=fun w' hb hc =>
     ⟨st',own',by omega,HR'.out.below hb,F',HC'.out.trans (Chg.of_below hb),(fun c hcm=>by
      rw [List.take_add_one,Gk.out] at hcm
      rcases List.mem_append.1 hcm with h | h
      ·exact HN'.out c h
      ·simp at h; subst h; exact hc),HE'.out⟩
    have hMes:∀ w',Below wr.heap.size wr w'→recLen r w'=st'.recs.length:=fun w' hb=>(HR'.out.below hb).recLen
    have HNext:Hid (∀ w',Below wr.heap.size wr w'→clrP rc y=false→Hid (ClrInv N own wA r st rc (k+1) w')):=hNext
    have HMes:Hid (∀ w',Below wr.heap.size wr w'→recLen r w'=st'.recs.length):=hMes
    clear hNext hMes
    cases hwt:y.waits
    ·rw [hwt] at q8
     cases hsl:sameL y.who.1 y.who.2.1 rc.at_.1 rc.at_.2
     ·cases hmt:meetB y rc
      ·go_wp2_with (first | (refine wpList_load_mid rfl 108 _ rfl bt (k*10) rfl yc _ Hrg.out Try.underlying108 rfl ?sz ?_) | (refine wpList_store_row rfl 108 _ _ rfl wr.heap.size yc.toArray rfl rfl 108 _ (heap_alloc_new wr _) ?hsz ?hold ?hone ?_))
       case sz=>rw [HL10.out]; exact size108
       case hsz=>rw [show yc.toArray.size=10 from by simpa using HL10.out]; exact size108
       case hold=>rw [show yc.toArray.size=10 from by simpa using HL10.out]; rfl
       case hone=>exact HO1.out
       refine (sameLabel_is hsl _).mono ?_
       rintro e w1 ⟨rfl,hb1⟩
       have hB1:Below wr.heap.size wr w1:=hAY.trans (hb1.mono hAY.size)
       have hY1:w1.rangeAt wr.heap.size 0 (recC y):=by
        refine rangeAt_below ?_ hb1 (by simp)
        intro j u hj
        rw [World.cell?_alloc_new,Hyc.out]
        simpa using hj
       obtain ⟨z0,z1,z2,z3,z4,z5,z6,z7,z8,z9⟩:=rec_cells hY1
       have hX1:w1.rangeAt w.heap.size 0 (recC rc):=rangeAt_below HXr.out hB1 hzw
       obtain ⟨v0,v1,v2,v3,v4,v5,v6,v7,v8,v9⟩:=rec_cells hX1
       have HY1:Hid (w1.rangeAt wr.heap.size 0 (recC y)):=hY1
       have hzY:wr.heap.size < w1.heap.size:=by have:=hb1.size; simp at this; omega
       clear hY1 hX1 hb1
       go_wp2_with fail
       have hcall:=meet_is (a:=y) (b:=rc) hmt
       unfold recV at hcall
       rw [hwt,hwr] at hcall
       refine (hcall _).mono ?_
       clear hcall
       rintro e w2 ⟨rfl,hb2⟩
       have hB2:Below wr.heap.size wr w2:=hB1.trans (hb2.mono hB1.size)
       clear hb2
       go_wp2
       go_roundw
       case rel=>exact ⟨k+1,by go_num,HNext.out _ hB2 (by unfold clrP; rw [hmt]; simp)⟩
       case measure =>
        rw [HLn.out,HMes.out _ hB2]
        simp [intOf]; omega
      ·go_wp2_with (first | (refine wpList_load_mid rfl 108 _ rfl bt (k*10) rfl yc _ Hrg.out Try.underlying108 rfl ?sz ?_) | (refine wpList_store_row rfl 108 _ _ rfl wr.heap.size yc.toArray rfl rfl 108 _ (heap_alloc_new wr _) ?hsz ?hold ?hone ?_))
       case sz=>rw [HL10.out]; exact size108
       case hsz=>rw [show yc.toArray.size=10 from by simpa using HL10.out]; exact size108
       case hold=>rw [show yc.toArray.size=10 from by simpa using HL10.out]; rfl
       case hone=>exact HO1.out
       refine (sameLabel_is hsl _).mono ?_
       rintro e w1 ⟨rfl,hb1⟩
       have hB1:Below wr.heap.size wr w1:=hAY.trans (hb1.mono hAY.size)
       have hY1:w1.rangeAt wr.heap.size 0 (recC y):=by
        refine rangeAt_below ?_ hb1 (by simp)
        intro j u hj
        rw [World.cell?_alloc_new,Hyc.out]
        simpa using hj
       obtain ⟨z0,z1,z2,z3,z4,z5,z6,z7,z8,z9⟩:=rec_cells hY1
       have hX1:w1.rangeAt w.heap.size 0 (recC rc):=rangeAt_below HXr.out hB1 hzw
       obtain ⟨v0,v1,v2,v3,v4,v5,v6,v7,v8,v9⟩:=rec_cells hX1
       have HY1:Hid (w1.rangeAt wr.heap.size 0 (recC y)):=hY1
       have hzY:wr.heap.size < w1.heap.size:=by have:=hb1.size; simp at this; omega
       clear hY1 hX1 hb1
       go_wp2_with fail
       have hcall:=meet_is (a:=y) (b:=rc) hmt
       unfold recV at hcall
       rw [hwt,hwr] at hcall
       refine (hcall _).mono ?_
       clear hcall
       rintro e w2 ⟨rfl,hb2⟩
       have hB2:Below wr.heap.size wr w2:=hB1.trans (hb2.mono hB1.size)
       have hY2:w2.rangeAt wr.heap.size 0 (recC y):=rangeAt_below HY1.out hb2 hzY
       obtain ⟨p0,p1,p2,_⟩:=rec_cells hY2
       have hym:y∈st'.recs:=List.mem_of_getElem? Gk.out
       have hHit:clrP rc y=true:=by unfold clrP; rw [hwt,hsl,hmt]; rfl
       clear hb2 hY2
       go_wp2_with fail
       refine (end_any r st' own' y.who true 1 _ (HR'.out.below hB2) F' (F'.backed y hym)).mono ?_
       rintro e w3 ⟨rfl,own3,hrep3,hchg3⟩
       have hI3:Hid (ClrInv N own wA r st rc 0 w3):=⟨st'.ends y.who true 1,own3,Nat.zero_le _,hrep3,F'.ends _ _ _,HC'.out.trans ((Chg.of_below hB2).trans hchg3),(fun c hc=>by simp at hc),by
        rw [← clearN_hit F' Gk.out HN'.out hHit]; exact HE'.out⟩
       have hlt3:recLen r w3 < st'.recs.length:=by rw [hrep3.recLen]; exact ends_recs_lt (F'.backed y hym) hym true 1
       have Hlt3:Hid (recLen r w3 < st'.recs.length):=hlt3
       clear hrep3 hchg3 hlt3
       go_wp2
       go_roundw
       case rel=>exact ⟨0,by go_num,hI3⟩
       case measure =>
        rw [HLn.out]
        have h3:=Hlt3.out
        exact clr_measure h3
     ·go_wp2_with (first | (refine wpList_load_mid rfl 108 _ rfl bt (k*10) rfl yc _ Hrg.out Try.underlying108 rfl ?sz ?_) | (refine wpList_store_row rfl 108 _ _ rfl wr.heap.size yc.toArray rfl rfl 108 _ (heap_alloc_new wr _) ?hsz ?hold ?hone ?_))
      case sz=>rw [HL10.out]; exact size108
      case hsz=>rw [show yc.toArray.size=10 from by simpa using HL10.out]; exact size108
      case hold=>rw [show yc.toArray.size=10 from by simpa using HL10.out]; rfl
      case hone=>exact HO1.out
      refine (sameLabel_is hsl _).mono ?_
      rintro e w1 ⟨rfl,hb1⟩
      have hB1:Below wr.heap.size wr w1:=hAY.trans (hb1.mono hAY.size)
      clear hb1
      go_wp2
      go_roundw
      case rel=>exact ⟨k+1,by go_num,HNext.out _ hB1 (by unfold clrP; rw [hsl]; simp)⟩
      case measure =>
       rw [HLn.out,HMes.out _ hB1]
       simp [intOf]; omega
    ·rw [hwt] at q8
     go_wp2_with (first | (refine wpList_load_mid rfl 108 _ rfl bt (k*10) rfl yc _ Hrg.out Try.underlying108 rfl ?sz ?_) | (refine wpList_store_row rfl 108 _ _ rfl wr.heap.size yc.toArray rfl rfl 108 _ (heap_alloc_new wr _) ?hsz ?hold ?hone ?_))
     case sz=>rw [HL10.out]; exact size108
     case hsz=>rw [show yc.toArray.size=10 from by simpa using HL10.out]; exact size108
     case hold=>rw [show yc.toArray.size=10 from by simpa using HL10.out]; rfl
     case hone=>exact HO1.out
     go_wp2
     go_roundw
     case rel=>exact ⟨k+1,by go_num,HNext.out _ hAY (by unfold clrP; rw [hwt]; rfl)⟩
     case measure =>
      rw [HLn.out,HMes.out _ hAY]
      simp [intOf]; omega
   ·have ek:k=st'.recs.length:=by omega
    subst ek
    have hfin:Goes own w wr r (st.clearT rc):=by
     refine ⟨own',?_,(Chg.of_below hA).trans HC'.out⟩
     rw [HCT.out,← HE'.out,clearN_none (fun c hc=>HN'.out c (by rw [List.take_length]; exact hc))]
     exact HR'.out
    go_wp2
    go_end0
    exact ⟨rfl,hfin⟩
end Go.Proofs.Ytpbcplfpjcacfaa
namespace Go.Proofs.Ytpbcplfpjcacfaa
open Go.RowKit
set_option linter.unusedSimpArgs false
set_option maxRecDepth 100000
set_option maxHeartbeats 8000000
theorem ans_end {w w1:World} {R c0:Nat} (hB1:Below w.heap.size w w1) (hw:w.heap.size≤R) (a b c:Value) (_:c0=0) :
  Below w.heap.size w (((w1.setCell ⟨R,0,none⟩ a).setCell ⟨R,1,none⟩ b).setCell ⟨R,2,none⟩ c) :=
 ((hB1.setCell hw _).setCell hw _).setCell hw _
theorem poll_blocked (r:Nat) (i q:Int) (w:World) (hq:0≤q) :
  Calls Try.prog 89 #[.pointer (some ⟨r,0,none⟩),.int .i64 i,.int .i64 q] w fun e w'=>e=.returned (ansV 1 0 (.slice none 0 0))∧Below w.heap.size w w':=by
 unfold ansV
 go_enter Try.func89,Try.ntmps89
 go_wp2_with fail
 refine (code_any 1 _).mono ?_
 rintro e w1 ⟨rfl,hb1⟩
 have hB1:Below w.heap.size w w1:=((Below.refl _ _).alloc (Nat.le_refl _) _).trans (hb1.mono (by simp))
 have hR:w1.heap[w.heap.size]?=some (.cells #[.int .i64 0,.int .i64 0,.slice none 0 0] 66 (0,0)):=by
  rw [hb1.block _ (by simp)]; exact heap_alloc_new w _
 obtain ⟨e0,e1,e2,f0,f1,f2⟩:=ans_cells hR
 have HS:Hid ((((w1.setCell ⟨w.heap.size,0,none⟩ (.int .i64 1)).setCell ⟨w.heap.size,1,none⟩ (.int .i64 0)).setCell ⟨w.heap.size,2,none⟩ (.slice none 0 0)).heap[w.heap.size]?=some (.cells #[.int .i64 1,.int .i64 0,.slice none 0 0] 66 (0,0))):=ans_stored (.int .i64 1) (.int .i64 0) (.slice none 0 0) hR
 have hbel:=ans_end hB1 (Nat.le_refl _) (.int .i64 1) (.int .i64 0) (.slice none 0 0) rfl
 clear hR hb1
 unfold ansV
 go_wp2
 exact ret_ans Try.results89 rfl HS.out rfl ⟨rfl,hbel⟩
theorem poll_none (r:Nat) (i q:Int) (w:World) (hq:q < 0) (hi:i < 0) :
  Calls Try.prog 89 #[.pointer (some ⟨r,0,none⟩),.int .i64 i,.int .i64 q] w fun e w'=>e=.returned (ansV 8 0 (.slice none 0 0))∧Below w.heap.size w w':=by
 have d:decide (0≤i)=false:=by simpa using hi
 unfold ansV
 go_enter Try.func89,Try.ntmps89
 go_wp2_with fail
 refine (code_any 8 _).mono ?_
 rintro e w1 ⟨rfl,hb1⟩
 have hB1:Below w.heap.size w w1:=((Below.refl _ _).alloc (Nat.le_refl _) _).trans (hb1.mono (by simp))
 have hR:w1.heap[w.heap.size]?=some (.cells #[.int .i64 0,.int .i64 0,.slice none 0 0] 66 (0,0)):=by
  rw [hb1.block _ (by simp)]; exact heap_alloc_new w _
 obtain ⟨e0,e1,e2,f0,f1,f2⟩:=ans_cells hR
 have HS:Hid ((((w1.setCell ⟨w.heap.size,0,none⟩ (.int .i64 8)).setCell ⟨w.heap.size,1,none⟩ (.int .i64 0)).setCell ⟨w.heap.size,2,none⟩ (.slice none 0 0)).heap[w.heap.size]?=some (.cells #[.int .i64 8,.int .i64 0,.slice none 0 0] 66 (0,0))):=ans_stored (.int .i64 8) (.int .i64 0) (.slice none 0 0) hR
 have hbel:=ans_end hB1 (Nat.le_refl _) (.int .i64 8) (.int .i64 0) (.slice none 0 0) rfl
 clear hR hb1
 unfold ansV
 go_wp2
 exact ret_ans Try.results89 rfl HS.out rfl ⟨rfl,hbel⟩
theorem poll_idle (r:Nat) (st:RS) (own:Own) (n:Nat) (t:Tx) (q:Int) (w:World) (hm:Rep w r st own) (hn:st.txns[n]?=some t) (hr:t.ready=false) (hq:q < 0) :
  Calls Try.prog 89 #[.pointer (some ⟨r,0,none⟩),.int .i64 n,.int .i64 q] w fun e w'=>e=.returned (ansV 8 0 (.slice none 0 0))∧Below w.heap.size w w':=by
 obtain ⟨g,vp,vt,vr,ve,m⟩:=hm
 obtain ⟨ao,cap,rfl,hmax,hel⟩:=m.txns.form (len_txnC g)
 obtain ⟨bt,rfl,hbo,hbt,hrg,hfz⟩:=hel n t hn
 have hlt:n < st.txns.length:=(List.getElem?_eq_some_iff.1 hn).1
 have hrlt:=m.old r (by rw [m.rootTag]; simp)
 have s4:w.cell? ⟨r,4,none⟩=some (.slice (some ⟨bt,0,none⟩) st.txns.length cap):=by rw [root_cell m.root]; rfl
 have sr:w.cell? ⟨bt,n*19+15,none⟩=some (.bool false):=by have:=hrg 15 _ rfl; rw [hr] at this; exact this
 have zn:(n:Int) < (st.txns.length:Int):=by omega
 unfold maxLen at hmax
 clear m hel hrg hfz hr hn
 unfold ansV
 go_enter Try.func89,Try.ntmps89
 go_wp2_with fail
 refine (code_any 8 _).mono ?_
 rintro e w1 ⟨rfl,hb1⟩
 have hB1:Below w.heap.size w w1:=((Below.refl _ _).alloc (Nat.le_refl _) _).trans (hb1.mono (by simp))
 have hR:w1.heap[w.heap.size]?=some (.cells #[.int .i64 0,.int .i64 0,.slice none 0 0] 66 (0,0)):=by
  rw [hb1.block _ (by simp)]; exact heap_alloc_new w _
 obtain ⟨e0,e1,e2,f0,f1,f2⟩:=ans_cells hR
 have HS:Hid ((((w1.setCell ⟨w.heap.size,0,none⟩ (.int .i64 8)).setCell ⟨w.heap.size,1,none⟩ (.int .i64 0)).setCell ⟨w.heap.size,2,none⟩ (.slice none 0 0)).heap[w.heap.size]?=some (.cells #[.int .i64 8,.int .i64 0,.slice none 0 0] 66 (0,0))):=ans_stored (.int .i64 8) (.int .i64 0) (.slice none 0 0) hR
 have hbel:=ans_end hB1 (Nat.le_refl _) (.int .i64 8) (.int .i64 0) (.slice none 0 0) rfl
 clear hR hb1
 unfold ansV
 go_wp2
 exact ret_ans Try.results89 rfl HS.out rfl ⟨rfl,hbel⟩
theorem Mem.ready_off {w:World} {r:Nat} {st:RS} {own:Own} {g:Gh} {vp vr ve:Value} {bt cap n:Nat} {t:Tx}
  (P:Mem w r st own g vp (.slice (some ⟨bt,0,none⟩) st.txns.length cap) vr ve) (hn:st.txns[n]?=some t) :
  Mem (w.setCell ⟨bt,n*19+15,none⟩ (.bool false)) r { st with txns:=st.txns.set n { t with ready:=false } } own g vp (.slice (some ⟨bt,0,none⟩) st.txns.length cap) vr ve:=by
 have hbo:own bt=some (3,0,0,0):=P.txns.2 bt rfl
 have k:∀ c t',own c=some t'→t'≠(3,0,0,0)→(w.setCell ⟨bt,n*19+15,none⟩ (.bool false)).heap[c]?=w.heap[c]?:=fun c t' hc hne=>heap_setCell_ne _ _ _ _ _ (fun e=>by rw [e,hbo] at hc; exact hne (Option.some.inj hc).symm)
 have hmem:∀ u∈st.txns.set n { t with ready:=false },∃ u'∈st.txns,u'.who=u.who∧u'.olds=u.olds∧u'.puts=u.puts∧(u.ready=true→u'=u):=by
  intro u hu
  obtain ⟨m,hm⟩:=List.mem_iff_getElem?.1 hu
  by_cases hmn:n=m
  ·subst hmn
   rw [List.getElem?_set_self (List.getElem?_eq_some_iff.1 hn).1] at hm
   have e:=Option.some.inj hm
   subst e
   exact ⟨t,List.mem_of_getElem? hn,rfl,rfl,rfl,fun h=>by cases h⟩
  ·rw [List.getElem?_set_ne hmn] at hm
   exact ⟨u,List.mem_of_getElem? hm,rfl,rfl,rfl,fun _=>rfl⟩
 exact {
  root:=by rw [k r _ P.rootTag (by decide)]; exact P.root
  rootTag:=P.rootTag
  places:=P.places.frame (fun c hc=>k c _ hc (by decide)) (fun _ h=>h)
  txns:=P.txns.set (len_txnC g) (k:=n) (j:=15) (x:=t) (x':={ t with ready:=false }) (u:=.bool false) hn (by decide) (by simp [txnC,stepC])
  recs:=P.recs.frame (fun c hc=>k c _ hc (by decide)) (fun _ h=>h)
  ended:=P.ended.frame (fun c hc=>k c _ hc (by decide)) (fun _ h=>h)
  olds:=fun u hu=>by
   obtain ⟨u',h1,h2,h3,h4,h5⟩:=hmem u hu
   rw [← h2,← h3]; exact (P.olds u' h1).frame (fun c hc=>k c _ hc (by intro h; cases h)) (fun _ h=>h)
  puts:=fun u hu=>by
   obtain ⟨u',h1,h2,h3,h4,h5⟩:=hmem u hu
   rw [← h2,← h4]; exact (P.puts u' h1).frame (fun c hc=>k c _ hc (by intro h; cases h)) (fun _ h=>h)
  told:=fun u hu hr=>by
   obtain ⟨u',h1,h2,h3,h4,h5⟩:=hmem u hu
   have e:=h5 hr
   subst e
   exact (P.told u' h1 hr).frame (fun c hc=>k c _ hc (by intro h; cases h)) (fun _ h=>h)
  toldV:=fun u hu=>by
   obtain ⟨u',h1,h2,_⟩:=hmem u hu
   rw [← h2]; exact P.toldV u' h1
  old:=fun c hc=>by have:=P.old c hc; simpa using this }
theorem poll_told (r:Nat) (st:RS) (own:Own) (n:Nat) (t:Tx) (q:Int) (w:World) (hm:Rep w r st own) (hn:st.txns[n]?=some t) (hr:t.ready=true) (hq:q < 0) :
  Calls Try.prog 89 #[.pointer (some ⟨r,0,none⟩),.int .i64 n,.int .i64 q] w fun e w' =>
   ∃ v,e=.returned (ansV t.told.code t.told.why v)∧Row w' own (8,t.who) 94 2 v t.told.items itemV∧Rep w' r { st with txns:=st.txns.set n { t with ready:=false } } own∧Chg own w w' own:=by
 have hol0:∀ k,own k≠none→k < w.heap.size:=by obtain ⟨g,vp,vt,vr,ve,m⟩:=hm; exact m.old
 have hfrR:own w.heap.size=none:=by
  cases hq:own w.heap.size with
  | none=>rfl
  | some t=>have:=hol0 w.heap.size (by rw [hq]; simp); omega
 obtain ⟨g,vp,vt,vr,ve,m⟩:=hm
 have M:=m
 obtain ⟨ao,cap,rfl,hmax,hel⟩:=m.txns.form (len_txnC g)
 obtain ⟨bt,rfl,hbo,hbt,hrg,hfz⟩:=hel n t hn
 have hlt:n < st.txns.length:=(List.getElem?_eq_some_iff.1 hn).1
 have hrlt:=m.old r (by rw [m.rootTag]; simp)
 have hto:=m.told t (List.mem_of_getElem? hn) hr
 have s4:w.cell? ⟨r,4,none⟩=some (.slice (some ⟨bt,0,none⟩) st.txns.length cap):=by rw [root_cell m.root]; rfl
 have sr:w.cell? ⟨bt,n*19+15,none⟩=some (.bool true):=by have:=hrg 15 _ rfl; rw [hr] at this; exact this
 have sc:w.cell? ⟨bt,n*19+16,none⟩=some (.int .i64 t.told.code):=hrg 16 _ rfl
 have sy:w.cell? ⟨bt,n*19+17,none⟩=some (.int .i64 t.told.why):=hrg 17 _ rfl
 have si:w.cell? ⟨bt,n*19+18,none⟩=some (g t.who).2.2:=hrg 18 _ rfl
 obtain ⟨ao3,cap3,hg3,hmax3,hel3⟩:=hto.form len_itemC
 rw [hg3] at si hto
 have fr:=hfz (n*19+15)
 have zn:(n:Int) < (st.txns.length:Int):=by omega
 have MM:Hid (Mem w r st own g vp (.slice (some ⟨bt,0,none⟩) st.txns.length cap) vr ve):=M
 have Hn:Hid (st.txns[n]?=some t):=hn
 have Hto:Hid (Row w own (8,t.who) 94 2 (.slice ao3 t.told.items.length cap3) t.told.items itemV):=hto
 unfold maxLen at hmax
 clear m M hel hrg hfz hr hn hel3 hg3 hol0 hto
 unfold ansV
 go_enter Try.func89,Try.ntmps89
 go_wp2
 have hA:Below (w.setCell ⟨bt,n*19+15,none⟩ (.bool false)).heap.size (w.setCell ⟨bt,n*19+15,none⟩ (.bool false)) ((w.setCell ⟨bt,n*19+15,none⟩ (.bool false)).alloc (.cells #[.int .i64 t.told.code,.int .i64 t.told.why,.slice ao3 t.told.items.length cap3] 66)):=(Below.refl _ _).alloc (Nat.le_refl _) _
 have hR:((w.setCell ⟨bt,n*19+15,none⟩ (.bool false)).alloc (.cells #[.int .i64 t.told.code,.int .i64 t.told.why,.slice ao3 t.told.items.length cap3] 66)).heap[w.heap.size]?=some (.cells #[.int .i64 t.told.code,.int .i64 t.told.why,.slice ao3 t.told.items.length cap3] 66 (0,0)):=by
  have:=heap_alloc_new (w.setCell ⟨bt,n*19+15,none⟩ (.bool false)) (.cells #[.int .i64 t.told.code,.int .i64 t.told.why,.slice ao3 t.told.items.length cap3] 66 (0,0))
  simpa using this
 have hch:Chg own w (w.setCell ⟨bt,n*19+15,none⟩ (.bool false)) own :=
  ⟨rfl,rfl,rfl,by simp,fun k _ hn=>heap_setCell_ne _ _ _ _ _ (fun e=>by rw [e,hbo] at hn; cases hn),fun _ _ h=>h,fun _ h=>.inl h⟩
 refine ret_ans Try.results89 rfl hR rfl ⟨_,rfl,?_,⟨g,vp,_,vr,ve,(MM.out.ready_off Hn.out).below hA⟩,hch.trans (Chg.of_below hA)⟩
 exact (Hto.out.frame (fun c hc=>heap_setCell_ne _ _ _ _ _ (fun e=>by rw [e,hbo] at hc; cases hc)) (fun _ h=>h)).below hA
end Go.Proofs.Ytpbcplfpjcacfaa
namespace Go.Proofs.Ytpbcplfpjcacfaa
open Go.RowKit
set_option maxRecDepth 100000
set_option maxHeartbeats 8000000
def bestV:Option Nat→Int
 | none=>-1
 | some k=>k
theorem againT_none {st:RS} (h:st.bestTo st.recs.length=none):st.againT=st:=againN_none h _
def waitAt (w:World) (b k:Nat):Bool:=match w.cell? ⟨b,k*10+8,none⟩ with
 | some (.bool x)=>x
 | _=>false
def waitMem (r:Nat) (w:World):Nat:=match w.cell? ⟨r,5,none⟩ with
 | some (.slice (some p) n _)=>(List.range n).countP (waitAt w p.block)
 | _=>0
theorem count_range {α:Type} {p:Nat→Bool} {q:α→Bool} {l:List α} (h:∀ k x,l[k]?=some x→p k=q x):∀ m,m≤l.length→(List.range m).countP p=(l.take m).countP q
 | 0,_=>by simp
 | m+1,hm=>by
  have hg:=List.getElem?_eq_getElem (l:=l) (i:=m) (by omega)
  rw [List.range_succ,List.take_add_one,hg,List.countP_append,List.countP_append,count_range h m (by omega)]
  simp only [List.countP_singleton,Option.toList_some,h m _ hg]
theorem Rep.waitMem {w:World} {r:Nat} {st:RS} {own:Own} (h:Rep w r st own):waitMem r w=st.waitN:=by
 obtain ⟨g,vp,vt,vr,ve,m⟩:=h
 unfold Go.Proofs.Ytpbcplfpjcacfaa.waitMem RS.waitN
 rcases m.recs.at len_recC with ⟨h1,h2⟩ | ⟨b,cap,h1,_,_,_,hel,_⟩
 ·rw [root_cell m.root]; simp [h1,h2]
 ·rw [root_cell m.root]
  simp only [h1,List.getElem?_toArray,List.getElem?_cons_succ,List.getElem?_cons_zero]
  rw [count_range (q:=fun c:Rc=>c.waits) (l:=st.recs) (fun k x hx=>by
   unfold waitAt
   rw [(rec_cells (hel k x hx)).2.2.2.2.2.2.2.2.1]) st.recs.length (Nat.le_refl _),List.take_length,List.countP_eq_length_filter]
end Go.Proofs.Ytpbcplfpjcacfaa
