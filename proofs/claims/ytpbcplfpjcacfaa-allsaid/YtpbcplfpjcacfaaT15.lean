import Derived.Test.YtpbcplfpjcacfaaT05
import Derived.Test.YtpbcplfpjcacfaaT14
namespace Go.Proofs.Ytpbcplfpjcacfaa
open Go.RowKit
set_option maxRecDepth 100000
set_option maxHeartbeats 8000000
def AgInv (N:Nat) (own:Own) (w0:World) (r:Nat) (st:RS) (wr:World):Prop :=
 ∃ st' own',Rep wr r st' own'∧st'.Fit N∧Chg own w0 wr own'∧st'.againT=st.againT
theorem again_any {N:Nat} (r:Nat) (st:RS) (own:Own) (w:World) (hm:Rep w r st own) (F:st.Fit N) (hNb:N < 4398046511104) :
  Calls Try.prog 91 #[.pointer (some ⟨r,0,none⟩)] w fun e w'=>e=.returned (.tuple #[])∧Goes own w w' r st.againT:=by
 have hI0:Hid (AgInv N own w r st w):=⟨st,own,hm,F,Chg.of_below (Below.refl _ _),rfl⟩
 clear hm F
 go_enter Try.func91,Try.ntmps91
 go_wp2_with fail
 go_loopw [] (fun wr=>Hid (AgInv N own w r st wr)) (fun wr=>waitMem r wr)
 case atStart=>exact hI0
 case round =>
  obtain ⟨st',own',hrep',F',hC',hE'⟩:=hrel.out
  rename World=>wo
  have hL:=F'.recL
  have HR':Hid (Rep wo r st' own'):=hrep'
  have HC':Hid (Chg own w wo own'):=hC'
  have HE':Hid (st'.againT=st.againT):=hE'
  have HW':Hid (waitMem r wo=st'.waitN):=hrep'.waitMem
  obtain ⟨g,vp,vt,vr,ve,m⟩:=hrep'
  obtain ⟨ao,cap,rfl,hmax,hel⟩:=m.recs.form len_recC
  have hrlt:=m.old r (by rw [m.rootTag]; simp)
  have c5:wo.cell? ⟨r,5,none⟩=some (.slice ao st'.recs.length cap):=by rw [root_cell m.root]; rfl
  clear hC' hE' hrel hI0
  go_wp2_with fail
  go_loopw [2,3] (fun b i wq=>∃ k:Nat,k≤st'.recs.length∧i=.int .i64 k∧b=.int .i64 (bestV (st'.bestTo k))∧Below wo.heap.size wo wq) (fun _ i _=>st'.recs.length - (intOf i).toNat)
  case atStart=>exact ⟨0,Nat.zero_le _,rfl,rfl,Below.refl _ _⟩
  case round =>
   obtain ⟨k,hk,rfl,rfl,hb⟩:=hrel
   have hzb:=hb.size
   have d5:wr.cell? ⟨r,5,none⟩=some (.slice ao st'.recs.length cap):=(hb.cell (p:=⟨r,5,none⟩) hrlt).trans c5
   by_cases hlt:k < st'.recs.length
   ·obtain ⟨bt,hao,_,hbt,hrg,_⟩:=hel k _ (List.getElem?_eq_getElem hlt)
    have gk:=List.getElem?_eq_getElem hlt
    generalize st'.recs[k]=y at hrg gk
    have Gk:Hid (st'.recs[k]?=some y):=gk
    have hrgw:=rangeAt_below hrg hb hbt
    obtain ⟨y0,y1,y2,y3,y4,y5,y6,y7,y8,y9⟩:=rec_cells hrgw
    have zk:(k:Int) < (st'.recs.length:Int):=by omega
    have hyo:=F'.recAt y (List.mem_of_getElem? gk)
    have Hyo:Hid (Lab.ok y.at_):=hyo
    have Hel:Hid (∀ (i:Nat) (x:Rc),st'.recs[i]?=some x→wr.rangeAt bt (i*10) (recC x)):=fun i x hx=>by
     obtain ⟨b',e1,_,e3,e4,_⟩:=hel i x hx
     rw [hao] at e1
     have e5:bt=b':=by injection e1 with e; injection e
     subst e5
     exact rangeAt_below e4 hb e3
    have HF:Hid (RS.Fit N st'):=F'
    subst hao
    clear hrg hrgw hel gk m c5 hyo F'
    cases hwt:y.waits
    ·rw [hwt] at y8
     have e:=bestTo_succ Gk.out
     have Hst:Hid (st'.bestTo (k+1)=st'.bestTo k):=by unfold Hid; rw [e]; unfold RS.free; rw [hwt]; rfl
     clear e
     go_wp2
     go_roundw
     case rel=>exact ⟨k+1,by omega,by go_num,by rw [Hst.out],hb⟩
     case measure=>simp [intOf]; omega
    ·have hcall:=hindered_any r st' own' y wr (HR'.out.below hb)
     unfold recV at hcall
     rw [hwt] at hcall y8
     cases hh:st'.hindered y
     ·rw [hh] at hcall
      cases hbk:st'.bestTo k with
      | none =>
       have e:=bestTo_succ Gk.out
       have Hst:Hid (st'.bestTo (k+1)=some k):=by unfold Hid; rw [e,hbk]; unfold RS.free RS.better; rw [hwt,hh]; rfl
       clear e
       simp only [bestV]
       go_wp2_with fail
       refine hcall.mono ?_
       clear hcall
       rintro e w1 ⟨rfl,hb1⟩
       have hB1:Below wo.heap.size wo w1:=hb.trans (hb1.mono hzb)
       have kne:=kin_some w1
       clear hb1
       go_wp2_with fail
       refine wp_region_kin (by kernel_rfl) (by kernel_rfl) ?_
       repeat (first | go_big_quiet_step (fail) | quiet_step (fail))
       refine wpQuiet_nil ?_
       intro _ hw'
       obtain ⟨xq,hw''⟩:=hw'
       subst hw''
       have hB2:Below wo.heap.size wo xq.w:=hB1.trans (xq.h.mono hB1.size)
       go_wp2
       go_roundw
       case rel=>exact ⟨k+1,by omega,by go_num,by rw [Hst.out],hB2⟩
       case measure=>simp [intOf]; omega
      | some j =>
       have e:=bestTo_succ Gk.out
       obtain ⟨hjk,d,hd,_⟩:=bestTo_at hbk
       have hdo:=HF.out.recAt d (List.mem_of_getElem? hd)
       have hrd:=Hel.out j d hd
       have Hdo:Hid (Lab.ok d.at_):=hdo
       have HD:Hid (wr.rangeAt bt (j*10) (recC d)):=hrd
       have HY:Hid (wr.rangeAt bt (k*10) (recC y)):=Hel.out k y Gk.out
       have hrlt':r < wr.heap.size:=by omega
       have hbt':bt < wr.heap.size:=by omega
       have zj:(j:Int) < (st'.recs.length:Int):=by omega
       have nj:decide ((j:Int) < 0)=false:=by simp
       clear hdo hrd
       cases had:aheadB y d
       ·have Hst:Hid (st'.bestTo (k+1)=some j):=by unfold Hid; rw [e,hbk]; unfold RS.free RS.better; simp [hwt,hh,hd,had]
        clear e hd hbk
        simp only [bestV]
        go_wp2_with fail
        refine hcall.mono ?_
        clear hcall
        rintro e w1 ⟨rfl,hb1⟩
        have hB1:Below wo.heap.size wo w1:=hb.trans (hb1.mono hzb)
        have kne:=kin_some w1
        have k5:=kin_cell ((hb1.cell (p:=⟨r,5,none⟩) hrlt').trans d5)
        obtain ⟨p0,p1,p2,p3,p4,p5,p6,p7,p8,p9⟩:=rec_cells (rangeAt_below HY.out hb1 hbt')
        obtain ⟨q0,q1,q2,q3,q4,q5,q6,q7,q8,q9⟩:=rec_cells (rangeAt_below HD.out hb1 hbt')
        have kp0:=kin_cell p0
        have kp1:=kin_cell p1
        have kp2:=kin_cell p2
        have kp3:=kin_cell p3
        have kp4:=kin_cell p4
        have kp5:=kin_cell p5
        have kp6:=kin_cell p6
        have kp7:=kin_cell p7
        have kp8:=kin_cell p8
        have kp9:=kin_cell p9
        have kq0:=kin_cell q0
        have kq1:=kin_cell q1
        have kq2:=kin_cell q2
        have kq3:=kin_cell q3
        have kq4:=kin_cell q4
        have kq5:=kin_cell q5
        have kq6:=kin_cell q6
        have kq7:=kin_cell q7
        have kq8:=kin_cell q8
        have kq9:=kin_cell q9
        rw [hwt] at kp8
        clear hb1 p0 p1 p2 p3 p4 p5 p6 p7 p8 p9 q0 q1 q2 q3 q4 q5 q6 q7 q8 q9
        have hah:∀ w,Calls Try.prog 110 #[recV y,recV d] w fun e w'=>e=.returned (.bool false)∧Below w.heap.size w w':=fun w=>ahead_is had Hyo.out Hdo.out w
        unfold recV at hah
        rw [hwt] at hah
        go_wp2_with fail
        refine wp_region_kin (by kernel_rfl) (by kernel_rfl) ?_
        repeat (first | go_big_quiet_step ((go_at_call 110; exact Calls.kin (hah _))) | quiet_step ((go_at_call 110; exact Calls.kin (hah _))))
        refine wpQuiet_nil ?_
        intro _ hw'
        obtain ⟨xq,hw''⟩:=hw'
        subst hw''
        have hB2:Below wo.heap.size wo xq.w:=hB1.trans (xq.h.mono hB1.size)
        go_wp2
        go_roundw
        case rel=>exact ⟨k+1,by omega,by go_num,by rw [Hst.out],hB2⟩
        case measure=>simp [intOf]; omega
       ·have Hst:Hid (st'.bestTo (k+1)=some k):=by unfold Hid; rw [e,hbk]; unfold RS.free RS.better; simp [hwt,hh,hd,had]
        clear e hd hbk
        simp only [bestV]
        go_wp2_with fail
        refine hcall.mono ?_
        clear hcall
        rintro e w1 ⟨rfl,hb1⟩
        have hB1:Below wo.heap.size wo w1:=hb.trans (hb1.mono hzb)
        have kne:=kin_some w1
        have k5:=kin_cell ((hb1.cell (p:=⟨r,5,none⟩) hrlt').trans d5)
        obtain ⟨p0,p1,p2,p3,p4,p5,p6,p7,p8,p9⟩:=rec_cells (rangeAt_below HY.out hb1 hbt')
        obtain ⟨q0,q1,q2,q3,q4,q5,q6,q7,q8,q9⟩:=rec_cells (rangeAt_below HD.out hb1 hbt')
        have kp0:=kin_cell p0
        have kp1:=kin_cell p1
        have kp2:=kin_cell p2
        have kp3:=kin_cell p3
        have kp4:=kin_cell p4
        have kp5:=kin_cell p5
        have kp6:=kin_cell p6
        have kp7:=kin_cell p7
        have kp8:=kin_cell p8
        have kp9:=kin_cell p9
        have kq0:=kin_cell q0
        have kq1:=kin_cell q1
        have kq2:=kin_cell q2
        have kq3:=kin_cell q3
        have kq4:=kin_cell q4
        have kq5:=kin_cell q5
        have kq6:=kin_cell q6
        have kq7:=kin_cell q7
        have kq8:=kin_cell q8
        have kq9:=kin_cell q9
        rw [hwt] at kp8
        clear hb1 p0 p1 p2 p3 p4 p5 p6 p7 p8 p9 q0 q1 q2 q3 q4 q5 q6 q7 q8 q9
        have hah:∀ w,Calls Try.prog 110 #[recV y,recV d] w fun e w'=>e=.returned (.bool true)∧Below w.heap.size w w':=fun w=>ahead_is had Hyo.out Hdo.out w
        unfold recV at hah
        rw [hwt] at hah
        go_wp2_with fail
        refine wp_region_kin (by kernel_rfl) (by kernel_rfl) ?_
        repeat (first | go_big_quiet_step ((go_at_call 110; exact Calls.kin (hah _))) | quiet_step ((go_at_call 110; exact Calls.kin (hah _))))
        refine wpQuiet_nil ?_
        intro _ hw'
        obtain ⟨xq,hw''⟩:=hw'
        subst hw''
        have hB2:Below wo.heap.size wo xq.w:=hB1.trans (xq.h.mono hB1.size)
        go_wp2
        go_roundw
        case rel=>exact ⟨k+1,by omega,by go_num,by rw [Hst.out],hB2⟩
        case measure=>simp [intOf]; omega
     ·rw [hh] at hcall
      have e:=bestTo_succ Gk.out
      have Hst:Hid (st'.bestTo (k+1)=st'.bestTo k):=by unfold Hid; rw [e]; unfold RS.free; rw [hwt,hh]; rfl
      clear e
      go_wp2_with fail
      refine hcall.mono ?_
      clear hcall
      rintro e w1 ⟨rfl,hb1⟩
      have hB1:Below wo.heap.size wo w1:=hb.trans (hb1.mono hzb)
      have kne:=kin_some w1
      clear hb1
      go_wp2_with fail
      refine wp_region_kin (by kernel_rfl) (by kernel_rfl) ?_
      repeat (first | go_big_quiet_step (fail) | quiet_step (fail))
      refine wpQuiet_nil ?_
      intro _ hw'
      obtain ⟨xq,hw''⟩:=hw'
      subst hw''
      have hB2:Below wo.heap.size wo xq.w:=hB1.trans (xq.h.mono hB1.size)
      go_wp2
      go_roundw
      case rel=>exact ⟨k+1,by omega,by go_num,by rw [Hst.out],hB2⟩
      case measure=>simp [intOf]; omega
   ·have ek:k=st'.recs.length:=by omega
    subst ek
    rcases best_cases st' with hbn | ⟨j,c,hbs,hj,hfr⟩
    ·rw [hbn]
     simp only [bestV]
     have hfin:Goes own w wr r st.againT:=by
      rw [← HE'.out,againT_none hbn]; exact ⟨own',HR'.out.below hb,HC'.out.trans (Chg.of_below hb)⟩
     go_wp2
     refine bodyPost_ret (v:=.tuple #[]) (by simp [results,Try.results91,go_sem]) rfl ⟨rfl,hfin⟩
    ·have hwt:=free_waits hfr
     obtain ⟨n,t,G⟩:=granting F' hj hwt
     obtain ⟨br,hao,hbro,hbr,hrg,hfz⟩:=hel j c hj
     subst hao
     have M:=m.below hb
     have f8:wr.frozen? ⟨br,j*10+8,none⟩=false:=by rw [World.frozen?_of_block (hb.block br hbr)]; exact hfz _
     have y8:wr.cell? ⟨br,j*10+8,none⟩=some (.bool true):=by rw [← hwt]; exact rangeAt_below hrg hb hbr 8 _ rfl
     have hrb:r≠br:=fun e=>by have:=m.rootTag; rw [e,hbro] at this; cases this
     have zj:(j:Int) < (st'.recs.length:Int):=by have:=(List.getElem?_eq_some_iff.1 hj).1; omega
     have nj:decide ((j:Int) < 0)=false:=by simp
     rw [hbs]
     simp only [bestV]
     have M1:=M.rec_off hj
     have s5:(wr.setCell ⟨br,j*10+8,none⟩ (.bool false)).cell? ⟨r,5,none⟩=some (.slice (some ⟨br,0,none⟩) st'.recs.length cap):=by rw [root_cell M1.root]; rfl
     have hrg1:(wr.setCell ⟨br,j*10+8,none⟩ (.bool false)).rangeAt br (j*10) (recC c.off):=by
      rcases M1.recs.at len_recC with ⟨_,e2⟩ | ⟨b',cp,e1,_,_,_,h,_⟩
      ·cases e2
      ·injection e1 with e2 e3 e4
       injection e2 with e5
       injection e5 with e6
       subst e6
       exact h j c.off (by show (st'.recs.set j c.off)[j]?=_; rw [List.getElem?_set_self (List.getElem?_eq_some_iff.1 hj).1])
     have hz1:Hid ((wr.setCell ⟨br,j*10+8,none⟩ (.bool false)).heap.size=wr.heap.size):=by unfold Hid; simp
     have HM1:Hid (Mem (wr.setCell ⟨br,j*10+8,none⟩ (.bool false)) r (st'.offAt j c) own' g vp vt (.slice (some ⟨br,0,none⟩) st'.recs.length cap) ve):=M1
     have HC1:Hid (Chg own w (wr.setCell ⟨br,j*10+8,none⟩ (.bool false)) own'):=(HC'.out.trans (Chg.of_below hb)).trans (Chg.cell hbro)
     have Hrg1:Hid ((wr.setCell ⟨br,j*10+8,none⟩ (.bool false)).rangeAt br (j*10) (recC c.off)):=hrg1
     have HG:Hid (Granting N st' j c n t):=G
     have HGS:Hid (st'.againT=(st'.grant j c).againT):=againT_step F' hbs hj hfr
     have HLT:Hid ((st'.grant j c).waitN < st'.waitN):=grant_waitN F' hj hwt
     have HFG:Hid ((st'.grant j c).Fit N):=F'.grant hj hwt
     have hbr':br < wr.heap.size:=by omega
     clear hrg hrg1 M M1 m hel hfz G c5
     go_upto_region 10 with fail
     generalize wr.setCell ⟨br,j*10+8,none⟩ (.bool false)=w1 at *
     have Hfr1:Hid (∀ k,w1.heap.size≤k→own' k=none):=Rep.fresh ⟨_,_,_,_,_,HM1.out⟩
     obtain ⟨yc,hyc⟩:∃ l,l=recC c.off:=⟨_,rfl⟩
     have HL10:Hid (yc.length=10):=by rw [hyc]; rfl
     have HO1:Hid (yc.toArray.all (·.oneCell')=true):=by rw [hyc]; exact recC_one c.off
     have Hyc:Hid (yc=recC c.off):=hyc
     have Hrg:Hid (w1.rangeAt br (j*10) yc):=by rw [hyc]; exact Hrg1
     have hsr:=fun (c c':Array Value) (ty:Nat)=>World.setRow_alloc_new w1 c c' ty
     have HF1:Hid ((st'.offAt j c).Fit N):=F'.offAt hj
     have q0:yc.toArray[0]?=some (.int .i64 c.who.1):=by rw [Hyc.out]; rfl
     have q1:yc.toArray[1]?=some (.int .i64 c.who.2.1):=by rw [Hyc.out]; rfl
     have q2:yc.toArray[2]?=some (.int .i64 c.who.2.2):=by rw [Hyc.out]; rfl
     have q3:yc.toArray[3]?=some (.int .i64 c.at_.1):=by rw [Hyc.out]; rfl
     have q4:yc.toArray[4]?=some (.int .i64 c.at_.2):=by rw [Hyc.out]; rfl
     have q5:yc.toArray[5]?=some (.int .i64 c.lo):=by rw [Hyc.out]; rfl
     have q6:yc.toArray[6]?=some (.int .i64 c.hi):=by rw [Hyc.out]; rfl
     have q7:yc.toArray[7]?=some (.bool c.write):=by rw [Hyc.out]; rfl
     have q8:yc.toArray[8]?=some (.bool false):=by rw [Hyc.out]; rfl
     have q9:yc.toArray[9]?=some (.int .i64 c.came):=by rw [Hyc.out]; rfl
     clear hyc y8 f8 d5 Hrg1
     go_wp2_with (first | (refine wpList_load_mid rfl 108 _ rfl br (j*10) rfl yc _ Hrg.out Try.underlying108 rfl ?sz ?_) | (refine wpList_store_row rfl 108 _ _ rfl w1.heap.size yc.toArray rfl rfl 108 _ (heap_alloc_new w1 _) ?hsz ?hold ?hone ?_))
     case sz=>rw [HL10.out]; exact size108
     case hsz=>rw [show yc.toArray.size=10 from by simpa using HL10.out]; exact size108
     case hold=>rw [show yc.toArray.size=10 from by simpa using HL10.out]; rfl
     case hone=>exact HO1.out
     have hB2:Below w1.heap.size w1 (w1.alloc (.cells yc.toArray 108)):=(Below.refl _ _).alloc (Nat.le_refl _) _
     have hz2:Hid ((w1.alloc (.cells yc.toArray 108)).heap.size=w1.heap.size+1):=by unfold Hid; simp
     have hX2:(w1.alloc (.cells yc.toArray 108)).rangeAt w1.heap.size 0 (recC c.off):=by
      intro i u hi
      rw [World.cell?_alloc_new,Hyc.out]
      simpa using hi
     clear hsr q0 q1 q2 q3 q4 q5 q6 q7 q8 q9
     generalize w1.alloc (.cells yc.toArray 108)=w2 at *
     have HX2:Hid (w2.rangeAt w1.heap.size 0 (recC c.off)):=hX2
     have hcl:Calls Try.prog 111 #[.pointer (some ⟨r,0,none⟩),.agg #[.int .i64 c.who.1,.int .i64 c.who.2.1,.int .i64 c.who.2.2,.int .i64 c.at_.1,.int .i64 c.at_.2,.int .i64 c.lo,.int .i64 c.hi,.bool c.write,.bool false,.int .i64 c.came]] w2 (fun e w'=>e=.returned (.tuple #[])∧Goes own' w2 w' r (st'.granted j c)) :=
      cleared_any r (st'.offAt j c) own' c.off w2 (Rep.below ⟨_,_,_,_,_,HM1.out⟩ hB2) HF1.out
     clear hX2
     refine hcl.mono ?_
     clear hcl
     rintro e w3 ⟨rfl,own3,hrep3,hchg3⟩
     go_upto_region 12 with fail
     have hX3:w3.rangeAt w1.heap.size 0 (recC c.off):=rangeAt_chg hchg3 (Hfr1.out _ (Nat.le_refl _)) (by have:=hz2.out; omega) HX2.out
     have o0:w3.cell? ⟨w1.heap.size,0,none⟩=some (.int .i64 c.who.1):=hX3 0 _ rfl
     have o1:w3.cell? ⟨w1.heap.size,1,none⟩=some (.int .i64 c.who.2.1):=hX3 1 _ rfl
     have o2:w3.cell? ⟨w1.heap.size,2,none⟩=some (.int .i64 c.who.2.2):=hX3 2 _ rfl
     have HR3:Hid (Rep w3 r (st'.granted j c) own3):=hrep3
     obtain ⟨g3,vp3,vt3,vr3,ve3,m3⟩:=hrep3
     obtain ⟨ao3,cap3,rfl,hmax3,hel3⟩:=m3.txns.form (len_txnC g3)
     obtain ⟨bt,rfl,hbto,hbt,hrt,_⟩:=hel3 n t HG.out.at_
     have e4:w3.cell? ⟨r,4,none⟩=some (.slice (some ⟨bt,0,none⟩) (st'.granted j c).txns.length cap3):=by rw [root_cell m3.root]; rfl
     have zn:(n:Int) < ((st'.granted j c).txns.length:Int):=by have:=(List.getElem?_eq_some_iff.1 HG.out.at_).1; omega
     have i0:w3.cell? ⟨bt,n*19+6,none⟩=some (.int .i64 t.step.who.1):=hrt 6 _ rfl
     have i1:w3.cell? ⟨bt,n*19+7,none⟩=some (.int .i64 t.step.who.2.1):=hrt 7 _ rfl
     have i2:w3.cell? ⟨bt,n*19+8,none⟩=some (.int .i64 t.step.who.2.2):=hrt 8 _ rfl
     have i3:w3.cell? ⟨bt,n*19+9,none⟩=some (.int .i64 t.step.op):=hrt 9 _ rfl
     have i4:w3.cell? ⟨bt,n*19+10,none⟩=some (.int .i64 t.step.at_.1):=hrt 10 _ rfl
     have i5:w3.cell? ⟨bt,n*19+11,none⟩=some (.int .i64 t.step.at_.2):=hrt 11 _ rfl
     have i6:w3.cell? ⟨bt,n*19+12,none⟩=some (.int .i64 t.step.key):=hrt 12 _ rfl
     have i7:w3.cell? ⟨bt,n*19+13,none⟩=some (.int .i64 t.step.to_):=hrt 13 _ rfl
     have i8:w3.cell? ⟨bt,n*19+14,none⟩=some (.int .i64 t.step.value):=hrt 14 _ rfl
     have hS3:∀ W,Below w3.heap.size w3 W→W.cell? ⟨r,4,none⟩=some (.slice (some ⟨bt,0,none⟩) (st'.granted j c).txns.length cap3)∧W.cell? ⟨w1.heap.size,0,none⟩=some (.int .i64 c.who.1)∧W.cell? ⟨w1.heap.size,1,none⟩=some (.int .i64 c.who.2.1)∧W.cell? ⟨w1.heap.size,2,none⟩=some (.int .i64 c.who.2.2) ∧
      W.cell? ⟨bt,n*19+6,none⟩=some (.int .i64 t.step.who.1)∧W.cell? ⟨bt,n*19+7,none⟩=some (.int .i64 t.step.who.2.1)∧W.cell? ⟨bt,n*19+8,none⟩=some (.int .i64 t.step.who.2.2)∧W.cell? ⟨bt,n*19+9,none⟩=some (.int .i64 t.step.op)∧W.cell? ⟨bt,n*19+10,none⟩=some (.int .i64 t.step.at_.1) ∧
      W.cell? ⟨bt,n*19+11,none⟩=some (.int .i64 t.step.at_.2)∧W.cell? ⟨bt,n*19+12,none⟩=some (.int .i64 t.step.key)∧W.cell? ⟨bt,n*19+13,none⟩=some (.int .i64 t.step.to_)∧W.cell? ⟨bt,n*19+14,none⟩=some (.int .i64 t.step.value):=fun W hB =>
      ⟨cell_later hB e4,cell_later hB o0,cell_later hB o1,cell_later hB o2,cell_later hB i0,cell_later hB i1,cell_later hB i2,cell_later hB i3,cell_later hB i4,cell_later hB i5,cell_later hB i6,cell_later hB i7,cell_later hB i8⟩
     have hlv:∀ W,Below w3.heap.size w3 W→Calls Try.prog 87 #[.pointer (some ⟨r,0,none⟩),.agg #[.int .i64 c.who.1,.int .i64 c.who.2.1,.int .i64 c.who.2.2]] W fun e w'=>e=.returned (.int .i64 (n:Int))∧Below W.heap.size W w':=fun W hB=>by
      have:=live_any r (st'.granted j c) own3 c.who.1 c.who.2.1 c.who.2.2 W (HR3.out.below hB)
      rw [show (st'.granted j c).live (c.who.1,c.who.2.1,c.who.2.2)=(n:Int) from HG.out.live] at this
      exact this
     have HS3:Hid (type_of% hS3):=hS3
     have HLV:Hid (type_of% hlv):=hlv
     have HX3:Hid (w3.rangeAt w1.heap.size 0 (recC c.off)):=hX3
     clear hS3 hlv hX3 m3 hel3 hrt i0 i1 i2 i3 i4 i5 i6 i7 i8 o0 o1 o2 e4
     go_cut [6] from 9 to 111 (fun v wc=>∃ b,v=.pointer (some ⟨b,0,none⟩)∧Below w3.heap.size w3 wc∧w3.heap.size≤b∧b < wc.heap.size∧Hid (wc.rangeAt b 0 (stepC t.step)))
     case first =>
      refine wp_region_Z (z:=12) (S:=fun W=>W.cell? ⟨r,4,none⟩=some (.slice (some ⟨bt,0,none⟩) (st'.granted j c).txns.length cap3)∧W.cell? ⟨w1.heap.size,0,none⟩=some (.int .i64 c.who.1)∧W.cell? ⟨w1.heap.size,1,none⟩=some (.int .i64 c.who.2.1)∧W.cell? ⟨w1.heap.size,2,none⟩=some (.int .i64 c.who.2.2) ∧
      W.cell? ⟨bt,n*19+6,none⟩=some (.int .i64 t.step.who.1)∧W.cell? ⟨bt,n*19+7,none⟩=some (.int .i64 t.step.who.2.1)∧W.cell? ⟨bt,n*19+8,none⟩=some (.int .i64 t.step.who.2.2)∧W.cell? ⟨bt,n*19+9,none⟩=some (.int .i64 t.step.op)∧W.cell? ⟨bt,n*19+10,none⟩=some (.int .i64 t.step.at_.1) ∧
      W.cell? ⟨bt,n*19+11,none⟩=some (.int .i64 t.step.at_.2)∧W.cell? ⟨bt,n*19+12,none⟩=some (.int .i64 t.step.key)∧W.cell? ⟨bt,n*19+13,none⟩=some (.int .i64 t.step.to_)∧W.cell? ⟨bt,n*19+14,none⟩=some (.int .i64 t.step.value)) (by kernel_rfl) ?_
      have hBd:Below w3.heap.size w3 w3.drew:=(Below.refl _ _).drew
      have hS:=HS3.out _ hBd
      refine zT (i:=0) (v:=?v1) (by decide +kernel) rfl (fun _ _ _ h=>h) hS (.inl ⟨by rfl,?y1⟩) ?_
      case y1=>(rintro wz ⟨zs0,zs1,zs2,zs3,zs4,zs5,zs6,zs7,zs8,zs9,zs10,zs11,zs12⟩; go_simp<;>with_reducible rfl)
      simp only [Act.put,z1,z2,z4,z5,z6]
      refine zT (i:=1) (v:=?v2) (by decide +kernel) rfl (fun _ _ _ h=>h) hS (.inl ⟨by rfl,?y2⟩) ?_
      case y2=>(rintro wz ⟨zs0,zs1,zs2,zs3,zs4,zs5,zs6,zs7,zs8,zs9,zs10,zs11,zs12⟩; go_simp<;>with_reducible rfl)
      simp only [Act.put,z1,z2,z3,z4,z5,z6]
      refine zT (i:=2) (v:=?v3) (by decide +kernel) rfl (fun _ _ _ h=>h) hS (.inl ⟨by rfl,?y3⟩) ?_
      case y3=>(rintro wz ⟨zs0,zs1,zs2,zs3,zs4,zs5,zs6,zs7,zs8,zs9,zs10,zs11,zs12⟩; go_simp<;>with_reducible rfl)
      simp only [Act.put,z1,z2,z3,z4,z5,z6]
      refine zT (i:=3) (v:=?v4) (by decide +kernel) rfl (fun _ _ _ h=>h) hS (.inl ⟨by rfl,?y4⟩) ?_
      case y4=>(rintro wz ⟨zs0,zs1,zs2,zs3,zs4,zs5,zs6,zs7,zs8,zs9,zs10,zs11,zs12⟩; go_simp<;>with_reducible rfl)
      simp only [Act.put,z1,z2,z3,z4,z5,z6]
      refine zT (i:=4) (v:=?v5) (by decide +kernel) rfl (fun _ _ _ h=>h) hS (.inl ⟨by rfl,?y5⟩) ?_
      case y5=>(rintro wz ⟨zs0,zs1,zs2,zs3,zs4,zs5,zs6,zs7,zs8,zs9,zs10,zs11,zs12⟩; go_simp<;>with_reducible rfl)
      simp only [Act.put,z1,z2,z3,z4,z5,z6]
      refine zT (i:=5) (v:=?v6) (by decide +kernel) rfl (fun _ _ _ h=>h) hS (.inl ⟨by rfl,?y6⟩) ?_
      case y6=>(rintro wz ⟨zs0,zs1,zs2,zs3,zs4,zs5,zs6,zs7,zs8,zs9,zs10,zs11,zs12⟩; go_simp<;>with_reducible rfl)
      simp only [Act.put,z1,z2,z3,z4,z5,z6]
      refine zT (i:=6) (v:=?v7) (by decide +kernel) rfl (fun _ _ _ h=>h) hS (.inl ⟨by rfl,?y7⟩) ?_
      case y7=>(rintro wz ⟨zs0,zs1,zs2,zs3,zs4,zs5,zs6,zs7,zs8,zs9,zs10,zs11,zs12⟩; go_simp<;>with_reducible rfl)
      simp only [Act.put,z1,z2,z3,z4,z5,z6]
      refine wpAnyZ_two (i:=7) (j:=11) (by decide +kernel) rfl rfl (fun K hK=>?_) (fun K hK=>?_)
      ·go_simp
       refine (HLV.out _ hBd).mono ?_
       rintro e w4 ⟨rfl,hb4⟩
       have hB4:Below w3.heap.size w3 w4:=hBd.trans (hb4.mono hBd.size)
       have hS:=HS3.out _ hB4
       refine hK _ _ (fun _=>hS) ?_
       clear hK hb4
       refine zT (i:=8) (v:=?v8) (by decide +kernel) rfl (fun _ _ _ h=>h) hS (.inl ⟨by rfl,?y8⟩) ?_
       case y8=>(rintro wz ⟨zs0,zs1,zs2,zs3,zs4,zs5,zs6,zs7,zs8,zs9,zs10,zs11,zs12⟩; go_simp<;>with_reducible rfl)
       simp only [Act.put,z1,z2,z3,z4,z5,z6]
       refine zT (i:=9) (v:=?v9) (by decide +kernel) rfl (fun _ _ _ h=>h) hS (.inl ⟨by rfl,?y9⟩) ?_
       case y9=>(rintro wz ⟨zs0,zs1,zs2,zs3,zs4,zs5,zs6,zs7,zs8,zs9,zs10,zs11,zs12⟩; go_simp<;>with_reducible rfl)
       simp only [Act.put,z1,z2,z3,z4,z5,z6]
       refine zT (i:=10) (v:=?v10) (by decide +kernel) rfl (fun _ _ _ h=>h) hS (.inl ⟨by rfl,?y10⟩) ?_
       case y10=>(rintro wz ⟨zs0,zs1,zs2,zs3,zs4,zs5,zs6,zs7,zs8,zs9,zs10,zs11,zs12⟩; go_simp<;>with_reducible rfl)
       simp only [Act.put,z1,z2,z3,z4,z5,z6]
       refine wpAnyZ_one (i:=11) (by decide +kernel) rfl (fun K hK=>?_)
       go_simp
       have hB5:Below w3.heap.size w3 (w4.alloc (.cells #[.int .i64 0,.int .i64 0,.int .i64 0,.int .i64 0,.int .i64 0,.int .i64 0,.int .i64 0,.int .i64 0,.int .i64 0] 30)):=hB4.alloc hB4.size _
       refine hK _ _ (fun _=>HS3.out _ hB5) ?_
       clear hK
       refine wpAnyZ_one (i:=12) (by decide +kernel) rfl (fun K hK=>?_)
       go_simp
       refine hK _ _ (fun h=>absurd rfl h) ?_
       clear hK
       refine wpAnyZ_done (by decide +kernel) ?_ _
       go_wp2_with fail
       go_meet
       case rel =>
        refine ⟨w4.heap.size,rfl,hB4.alloc hB4.size _,hB4.size,by simp,?_⟩
        intro i u hi
        rw [World.cell?_alloc_new]
        simpa [stepC] using hi
      ·go_simp
       have hB4:Below w3.heap.size w3 (w3.alloc (.cells #[.int .i64 0,.int .i64 0,.int .i64 0,.int .i64 0,.int .i64 0,.int .i64 0,.int .i64 0,.int .i64 0,.int .i64 0] 30)).drew:=((Below.refl _ _).alloc (Nat.le_refl _) _).drew
       have hN4:(w3.alloc (.cells #[.int .i64 0,.int .i64 0,.int .i64 0,.int .i64 0,.int .i64 0,.int .i64 0,.int .i64 0,.int .i64 0,.int .i64 0] 30)).drew.heap[w3.heap.size]?=some (.cells #[.int .i64 0,.int .i64 0,.int .i64 0,.int .i64 0,.int .i64 0,.int .i64 0,.int .i64 0,.int .i64 0,.int .i64 0] 30 (0,0)):=heap_alloc_new w3 _
       have hz4:(w3.alloc (.cells #[.int .i64 0,.int .i64 0,.int .i64 0,.int .i64 0,.int .i64 0,.int .i64 0,.int .i64 0,.int .i64 0,.int .i64 0] 30)).drew.heap.size=w3.heap.size+1:=by simp
       generalize (w3.alloc (.cells #[.int .i64 0,.int .i64 0,.int .i64 0,.int .i64 0,.int .i64 0,.int .i64 0,.int .i64 0,.int .i64 0,.int .i64 0] 30)).drew=w4 at *
       refine hK _ _ (fun _=>HS3.out _ hB4) ?_
       clear hK
       refine wpAnyZ_one (i:=7) (by decide +kernel) rfl (fun K hK=>?_)
       go_simp
       refine (HLV.out _ hB4).mono ?_
       rintro e w5 ⟨rfl,hb5⟩
       have hB5:Below w3.heap.size w3 w5:=hB4.trans (hb5.mono hB4.size)
       have hN5:Hid (w5.heap[w3.heap.size]?=some (.cells #[.int .i64 0,.int .i64 0,.int .i64 0,.int .i64 0,.int .i64 0,.int .i64 0,.int .i64 0,.int .i64 0,.int .i64 0] 30 (0,0))):=by unfold Hid; rw [hb5.block _ (by omega)]; exact hN4
       have hz5:w3.heap.size < w5.heap.size:=by have:=hb5.size; omega
       have hS:=HS3.out _ hB5
       refine hK _ _ (fun _=>hS) ?_
       clear hK hb5 hz4 hN4
       refine zT (i:=8) (v:=?v11) (by decide +kernel) rfl (fun _ _ _ h=>h) hS (.inl ⟨by rfl,?y11⟩) ?_
       case y11=>(rintro wz ⟨zs0,zs1,zs2,zs3,zs4,zs5,zs6,zs7,zs8,zs9,zs10,zs11,zs12⟩; go_simp<;>with_reducible rfl)
       simp only [Act.put,z1,z2,z3,z4,z5,z6]
       refine zT (i:=9) (v:=?v12) (by decide +kernel) rfl (fun _ _ _ h=>h) hS (.inl ⟨by rfl,?y12⟩) ?_
       case y12=>(rintro wz ⟨zs0,zs1,zs2,zs3,zs4,zs5,zs6,zs7,zs8,zs9,zs10,zs11,zs12⟩; go_simp<;>with_reducible rfl)
       simp only [Act.put,z1,z2,z3,z4,z5,z6]
       refine zT (i:=10) (v:=?v13) (by decide +kernel) rfl (fun _ _ _ h=>h) hS (.inl ⟨by rfl,?y13⟩) ?_
       case y13=>(rintro wz ⟨zs0,zs1,zs2,zs3,zs4,zs5,zs6,zs7,zs8,zs9,zs10,zs11,zs12⟩; go_simp<;>with_reducible rfl)
       simp only [Act.put,z1,z2,z3,z4,z5,z6]
       obtain ⟨k0,k1,k2,k3,k4,k5,k6,k7,k8,l0,l1,l2,l3,l4,l5,l6,l7,l8⟩:=step9_cells hN5.out
       refine wpAnyZ_one (i:=12) (by decide +kernel) rfl (fun K hK=>?_)
       go_simp
       refine hK _ _ (fun h=>absurd rfl h) ?_
       clear hK
       refine wpAnyZ_done (by decide +kernel) ?_ _
       have HST:=step_stored (.int .i64 t.step.who.1) (.int .i64 t.step.who.2.1) (.int .i64 t.step.who.2.2) (.int .i64 t.step.op) (.int .i64 t.step.at_.1) (.int .i64 t.step.at_.2) (.int .i64 t.step.key) (.int .i64 t.step.to_) (.int .i64 t.step.value) hN5.out
       go_wp2_with fail
       go_meet
       case rel =>
        refine ⟨w3.heap.size,rfl,((((((((hB5.setCell (Nat.le_refl _) _).setCell (Nat.le_refl _) _).setCell (Nat.le_refl _) _).setCell (Nat.le_refl _) _).setCell (Nat.le_refl _) _).setCell (Nat.le_refl _) _).setCell (Nat.le_refl _) _).setCell (Nat.le_refl _) _).setCell (Nat.le_refl _) _,Nat.le_refl _,by simpa using hz5,?_⟩
        intro i u hi
        rw [cell_of_row _ _ _ _ _ (0,0) HST]
        simpa [stepC] using hi
     case rest =>
      obtain ⟨b6,rfl,hBc,hb6,hb6',HXc⟩:=hcut
      have hXc:=HXc.out
      have k0:wc.cell? ⟨b6,0,none⟩=some (.int .i64 t.step.who.1):=hXc 0 _ rfl
      have k1:wc.cell? ⟨b6,1,none⟩=some (.int .i64 t.step.who.2.1):=hXc 1 _ rfl
      have k2:wc.cell? ⟨b6,2,none⟩=some (.int .i64 t.step.who.2.2):=hXc 2 _ rfl
      have k3:wc.cell? ⟨b6,3,none⟩=some (.int .i64 t.step.op):=hXc 3 _ rfl
      have k4:wc.cell? ⟨b6,4,none⟩=some (.int .i64 t.step.at_.1):=hXc 4 _ rfl
      have k5:wc.cell? ⟨b6,5,none⟩=some (.int .i64 t.step.at_.2):=hXc 5 _ rfl
      have k6:wc.cell? ⟨b6,6,none⟩=some (.int .i64 t.step.key):=hXc 6 _ rfl
      have k7:wc.cell? ⟨b6,7,none⟩=some (.int .i64 t.step.to_):=hXc 7 _ rfl
      have k8:wc.cell? ⟨b6,8,none⟩=some (.int .i64 t.step.value):=hXc 8 _ rfl
      have hRc:=HR3.out.below hBc
      have htm:=List.mem_of_getElem? HG.out.at_
      have hwk:=works_any r (st'.granted j c) own3 t.step n t wc hRc HG.out.fit.uniq HG.out.at_ (by rw [HG.out.who,HG.out.asks.1]) (by have:=HG.out.fit.plcL; omega) (by have:=HG.out.fit.oldsL htm; omega) (by have:=HG.out.puts; omega) HG.out.asks.2.2.1
      unfold stepV at hwk
      have HB5:Hid (wc.rangeAt w1.heap.size 0 (recC c.off)):=rangeAt_below HX3.out hBc (by have:=hz2.out; have:=hchg3.size; omega)
      have hn5:own3 w1.heap.size=none:=hchg3.none' (Hfr1.out _ (Nat.le_refl _)) (by have:=hz2.out; omega)
      clear hXc hRc htm
      go_wp2_with fail
      refine hwk.mono ?_
      clear hwk
      rintro e w4 ⟨v,own4,rfl,hrow4,hrep4,hchg4,hv4⟩
      obtain ⟨aw,haw⟩:∃ q,q=(st'.granted j c).job n t t.step:=⟨_,rfl⟩
      have HGR:=HG.out.grant
      rw [← haw] at hrow4 hrep4 HGR ⊢
      obtain ⟨u,hu,huw,hge⟩:=HGR
      obtain ⟨ao4,cap4,rfl⟩:=ownsRow_slice hrow4
      have FJ:aw.1.Fit N:=by rw [haw]; exact HG.out.fit.job HG.out.at_ HG.out.asks.2.2.1 HG.out.puts HG.out.nowait
      have hlu:aw.1.live (c.who.1,c.who.2.1,c.who.2.2)=(n:Int):=live_at hu huw FJ.uniq
      have hX4:w4.rangeAt w1.heap.size 0 (recC c.off):=rangeAt_chg hchg4 hn5 (by have:=hBc.size; have:=hchg3.size; have:=hz2.out; omega) HB5.out
      have o0:w4.cell? ⟨w1.heap.size,0,none⟩=some (.int .i64 c.who.1):=hX4 0 _ rfl
      have o1:w4.cell? ⟨w1.heap.size,1,none⟩=some (.int .i64 c.who.2.1):=hX4 1 _ rfl
      have o2:w4.cell? ⟨w1.heap.size,2,none⟩=some (.int .i64 c.who.2.2):=hX4 2 _ rfl
      have hl5:w1.heap.size < w4.heap.size:=by have:=hchg4.size; have:=hBc.size; have:=hchg3.size; have:=hz2.out; omega
      have HR4:Hid (Rep w4 r aw.1 own4):=hrep4
      have HC4:Hid (Chg own3 wc w4 own4):=hchg4
      have HC3:Hid (Chg own' w2 w3 own3):=hchg3
      have HV4:Hid (∀ b,(Value.slice ao4 aw.2.items.length cap4).ownBlock=some b→own4 b=none):=hv4
      have HR0:Hid (w4.ownsRow wc.heap.size 94 2 (.slice ao4 aw.2.items.length cap4) aw.2.items.length (itemsV aw.2.items)):=hrow4
      have HGE:Hid (type_of% hge):=hge
      have HU:Hid (aw.1.txns[n]?=some u):=hu
      have HUW:Hid (u.who=c.who):=huw
      have Hlu:Hid (aw.1.live (c.who.1,c.who.2.1,c.who.2.2)=(n:Int)):=hlu
      clear hrep4 hchg4 hv4 hrow4 hge hu huw hlu hX4 haw hchg3
      unfold ansV
      go_wp2_with fail
      have hBA:Below w4.heap.size w4 (w4.alloc (.cells #[.int .i64 aw.2.code,.int .i64 aw.2.why,.slice ao4 aw.2.items.length cap4] 66)):=(Below.refl _ _).alloc (Nat.le_refl _) _
      have hlc:=live_any r aw.1 own4 c.who.1 c.who.2.1 c.who.2.2 _ (HR4.out.below hBA)
      rw [Hlu.out] at hlc
      refine hlc.mono ?_
      clear hlc
      rintro e w6 ⟨rfl,hb7⟩
      have hB6:Below w4.heap.size w4 w6:=hBA.trans (hb7.mono hBA.size)
      have hA6:w6.heap[w4.heap.size]?=some (.cells #[.int .i64 aw.2.code,.int .i64 aw.2.why,.slice ao4 aw.2.items.length cap4] 66 (0,0)):=by rw [hb7.block _ (by simp)]; exact heap_alloc_new w4 _
      obtain ⟨a0,a1,a2,_,_,_⟩:=ans_cells hA6
      obtain ⟨g6,vp6,vt6,vr6,ve6,m6⟩:=HR4.out.below hB6
      obtain ⟨ao6,cap6,rfl,hmax6,hel6⟩:=m6.txns.form (len_txnC g6)
      obtain ⟨bu,rfl,hbuo,hbu,hru,hfu⟩:=hel6 n u HU.out
      have e4:w6.cell? ⟨r,4,none⟩=some (.slice (some ⟨bu,0,none⟩) aw.1.txns.length cap6):=by rw [root_cell m6.root]; rfl
      have i15:w6.cell? ⟨bu,n*19+15,none⟩=some (.bool u.ready):=hru 15 _ rfl
      have i16:w6.cell? ⟨bu,n*19+16,none⟩=some (.int .i64 u.told.code):=hru 16 _ rfl
      have i17:w6.cell? ⟨bu,n*19+17,none⟩=some (.int .i64 u.told.why):=hru 17 _ rfl
      have i18:w6.cell? ⟨bu,n*19+18,none⟩=some (g6 u.who).2.2:=hru 18 _ rfl
      have f15:=hfu (n*19+15)
      have f16:=hfu (n*19+16)
      have f17:=hfu (n*19+17)
      have f18:=hfu (n*19+18)
      have zu:(n:Int) < (aw.1.txns.length:Int):=by have:=(List.getElem?_eq_some_iff.1 HU.out).1; omega
      have hub:r≠bu:=fun e=>by have:=m6.rootTag; rw [e,hbuo] at this; cases this
      have hT:=Rep.tell (a:=aw.2) m6 HC4.out hB6 FJ.uniq HU.out HR0.out HV4.out
      rw [← HGE.out] at hT
      have hC5:Chg own w wc own3:=((HC1.out.trans (Chg.of_below hB2)).trans HC3.out).trans (Chg.of_below hBc)
      obtain ⟨own5,hrep5,hchg5⟩:=hT
      have hDr:=(Below.refl (tellW w6 bu n aw.2 (.slice ao4 aw.2.items.length cap4)).heap.size (tellW w6 bu n aw.2 (.slice ao4 aw.2.items.length cap4))).drew
      have HI5:Hid (AgInv N own w r st (tellW w6 bu n aw.2 (.slice ao4 aw.2.items.length cap4)).drew):=⟨st'.grant j c,own5,hrep5.below hDr,HFG.out,(hC5.trans hchg5).trans (Chg.of_below hDr),by rw [← HGS.out]; exact HE'.out⟩
      have HM5:Hid (waitMem r (tellW w6 bu n aw.2 (.slice ao4 aw.2.items.length cap4)).drew < waitMem r wo):=by
       unfold Hid
       rw [HW'.out,(hrep5.below hDr).waitMem]; exact HLT.out
      clear hDr m6 hel6 hru hfu hrep5 hchg5 hC5 hA6 hb7 hBA
      go_wp2_with fail
      refine wp_region_Z (z:=8) (S:=fun W=>W.cell? ⟨r,4,none⟩=some (.slice (some ⟨bu,0,none⟩) aw.1.txns.length cap6)∧W.cell? ⟨w4.heap.size,0,none⟩=some (.int .i64 aw.2.code)∧W.cell? ⟨w4.heap.size,1,none⟩=some (.int .i64 aw.2.why)∧W.cell? ⟨w4.heap.size,2,none⟩=some (.slice ao4 aw.2.items.length cap4)) (by kernel_rfl) ?_
      have hS:w6.drew.cell? ⟨r,4,none⟩=some (.slice (some ⟨bu,0,none⟩) aw.1.txns.length cap6)∧w6.drew.cell? ⟨w4.heap.size,0,none⟩=some (.int .i64 aw.2.code)∧w6.drew.cell? ⟨w4.heap.size,1,none⟩=some (.int .i64 aw.2.why)∧w6.drew.cell? ⟨w4.heap.size,2,none⟩=some (.slice ao4 aw.2.items.length cap4):=⟨e4,a0,a1,a2⟩
      refine zT (i:=0) (v:=?v14) (by decide +kernel) rfl (fun _ _ _ h=>h) hS (.inl ⟨by rfl,?y14⟩) ?_
      case y14=>(rintro wz ⟨zs0,zs1,zs2,zs3⟩; go_simp<;>with_reducible rfl)
      simp only [Act.put,z1,z2,z4,z5,z6]
      refine zT (i:=1) (v:=?v15) (by decide +kernel) rfl (fun _ _ _ h=>h) hS (.inl ⟨by rfl,?y15⟩) ?_
      case y15=>(rintro wz ⟨zs0,zs1,zs2,zs3⟩; go_simp<;>with_reducible rfl)
      simp only [Act.put,z1,z2,z3,z4,z5,z6]
      refine zT (i:=2) (v:=?v16) (by decide +kernel) rfl (fun _ _ _ h=>h) hS (.inl ⟨by rfl,?y16⟩) ?_
      case y16=>(rintro wz ⟨zs0,zs1,zs2,zs3⟩; go_simp<;>with_reducible rfl)
      simp only [Act.put,z1,z2,z3,z4,z5,z6]
      refine zT (i:=3) (v:=?v17) (by decide +kernel) rfl (fun _ _ _ h=>h) hS (.inl ⟨by rfl,?y17⟩) ?_
      case y17=>(rintro wz ⟨zs0,zs1,zs2,zs3⟩; go_simp<;>with_reducible rfl)
      simp only [Act.put,z1,z2,z3,z4,z5,z6]
      refine zT (i:=4) (v:=?v18) (by decide +kernel) rfl (fun _ _ _ h=>h) hS (.inl ⟨by rfl,?y18⟩) ?_
      case y18=>(rintro wz ⟨zs0,zs1,zs2,zs3⟩; go_simp<;>with_reducible rfl)
      simp only [Act.put,z1,z2,z3,z4,z5,z6]
      refine zT (i:=5) (v:=?v19) (by decide +kernel) rfl (fun _ _ _ h=>h) hS (.inl ⟨by rfl,?y19⟩) ?_
      case y19=>(rintro wz ⟨zs0,zs1,zs2,zs3⟩; go_simp<;>with_reducible rfl)
      simp only [Act.put,z1,z2,z3,z4,z5,z6]
      refine wpAnyZ_one (i:=6) (by decide +kernel) rfl (fun K hK=>?_)
      go_simp
      refine hK _ _ (fun _=>hS) ?_
      clear hK
      refine wpAnyZ_one (i:=7) (by decide +kernel) rfl (fun K hK=>?_)
      go_simp
      refine hK _ _ (fun _=>hS) ?_
      clear hK
      refine wpAnyZ_one (i:=8) (by decide +kernel) rfl (fun K hK=>?_)
      go_simp
      refine hK _ _ (fun h=>absurd rfl h) ?_
      clear hK
      refine wpAnyZ_done (by decide +kernel) ?_ _
      go_wp2
      go_roundw
      case rel=>exact HI5
      case measure=>exact HM5.out
def txLen (r:Nat) (w:World):Nat:=match w.cell? ⟨r,4,none⟩ with
 | some (.slice _ n _)=>n
 | _=>0
theorem Rep.txLen {w:World} {r:Nat} {st:RS} {own:Own} (h:Rep w r st own):txLen r w=st.txns.length:=by
 obtain ⟨g,vp,vt,vr,ve,m⟩:=h
 obtain ⟨ao,cap,rfl,_,_⟩:=m.txns.form (len_txnC g)
 unfold Go.Proofs.Ytpbcplfpjcacfaa.txLen
 rw [root_cell m.root]; rfl
end Go.Proofs.Ytpbcplfpjcacfaa
