import Derived.Test.YtpbcplfpjcacfaaT08
import Derived.Test.YtpbcplfpjcacfaaT09
namespace Go.Proofs.Ytpbcplfpjcacfaa
open Go.RowKit
set_option linter.unusedSimpArgs false
set_option maxRecDepth 100000
set_option maxHeartbeats 8000000
theorem setIx_len (a:Lab) (key v:Int):∀ l:List Plc,(setIx a key v l).length≤l.length+1
 | []=>by simp [setIx]
 | p :: l=>by
  rw [setIx]; split
  ·simp
  ·have:=setIx_len a key v l; simp; omega
theorem backTo_len (a:Lab):∀ (l:List (Int × Int)) (st:RS),(backTo a l st).places.length≤st.places.length+l.length
 | [],st=>by simp [backTo]
 | o :: l,st=>by
  have h:=backTo_len a l (st.setP a o.1 o.2)
  have h2:=setIx_len a o.1 o.2 st.places
  show (backTo a l (st.setP a o.1 o.2)).places.length≤_
  have h3:(st.setP a o.1 o.2).places.length≤st.places.length+1:=h2
  simp; omega
def Goes (own:Own) (w w':World) (r:Nat) (st:RS):Prop:=∃ own',Rep w' r st own'∧Chg own w w' own'
theorem info164:(Try.prog.info? 173).map (fun i=>(i.zero,i.size,i.bytes))=some (some (.agg #[.int .i64 0,.int .i64 0,.int .i64 0,.int .i64 0]),4,32):=by kernel_rfl
theorem info108:(Try.prog.info? 108).map (fun i=>(i.zero,i.size,i.bytes))=some (some (.agg #[.int .i64 0,.int .i64 0,.int .i64 0,.int .i64 0,.int .i64 0,.int .i64 0,.int .i64 0,.bool false,.bool false,.int .i64 0]),10,72):=by kernel_rfl
theorem erase_at {l:List Tx} {k n:Nat} {y:Tx} (h:l[k]?=some y) (e:k=n):(l.take (k+1)).eraseIdx n=(l.take k).eraseIdx n:=by
 subst e
 have hk:k < l.length:=(List.getElem?_eq_some_iff.1 h).1
 rw [List.eraseIdx_of_length_le (l:=l.take k) (by simp; omega),List.take_add_one,h,List.eraseIdx_append_of_length_le (by simp; omega)]
 simp [Nat.min_eq_left (Nat.le_of_lt hk)]
theorem erase_off {l:List Tx} {k n:Nat} {y:Tx} (h:l[k]?=some y) (e:¬ k=n) (_hn:n < l.length):(l.take (k+1)).eraseIdx n=(l.take k).eraseIdx n++[y]:=by
 have hk:k < l.length:=(List.getElem?_eq_some_iff.1 h).1
 rw [List.take_add_one,h]
 by_cases hlt:n < k
 ·rw [List.eraseIdx_append_of_lt_length (by simp; omega)]; rfl
 ·rw [List.eraseIdx_of_length_le (l:=l.take k) (by simp; omega),List.eraseIdx_of_length_le (by simp; omega)]; rfl
theorem arr_new (w:World) (l:List Value) (ty:Nat):∀ j u,l[j]?=some u→(w.alloc (.cells l.toArray ty)).cell? ((⟨w.heap.size,0,none⟩:Addr).add j)=some u:=by
 intro j u hj
 rw [Addr.add_mid,World.cell?_alloc_new]
 simpa using hj
theorem one_of {l:List Value} (h:l.toArray.all (·.oneCell')=true):∀ u∈l,u.oneCell'=true:=fun u hu=>by
 have:=Array.all_eq_true_iff_forall_mem.1 h u (by simpa using hu)
 exact this
theorem size157:(Try.prog.info? 162).map (·.size)=some 19:=by kernel_rfl
theorem slice_one {w:World} {B e size n:Nat} {v:Value} {xs:List Value} (h:w.ownsRow B e size v n xs):v.oneCell'=true:=by
 rcases h.2 with ⟨rfl,_⟩ | ⟨b,c,d,rfl,_⟩<;>rfl
theorem Mem.oneTxn {w:World} {r:Nat} {st:RS} {own:Own} {g:Gh} {vp vt vr ve:Value} (P:Mem w r st own g vp vt vr ve) {t:Tx} (h:t∈st.txns):(txnC g t).toArray.all (·.oneCell')=true:=by
 have h1:=slice_one (P.olds t h).1
 have h2:=slice_one (P.puts t h).1
 have h3:=P.toldV t h
 apply all_oneCell_toArray
 intro v hv
 simp only [txnC,stepC,List.cons_append,List.nil_append,List.mem_cons,List.not_mem_nil,or_false] at hv
 rcases hv with rfl | rfl | rfl | rfl | rfl | rfl | rfl | rfl | rfl | rfl | rfl | rfl | rfl | rfl | rfl | rfl | rfl | rfl | rfl
 all_goals first | assumption | rfl
theorem SetPost.cell {w w':World} {r:Nat} {st:RS} {own:Own} {g:Gh} {vt vr ve:Value} (h:SetPost w r st own g vt vr ve w') {b j:Nat} (hb:(own b=none∧b < w.heap.size)∨∃ t,own b=some t∧t≠(1,0,0,0)∧t≠(2,0,0,0)):w'.cell? ⟨b,j,none⟩=w.cell? ⟨b,j,none⟩:=by
 obtain ⟨own',vp',h1,h2,h3⟩:=h
 apply World.cell?_of_block
 rcases hb with ⟨a,b⟩ | ⟨t,a,b,c⟩
 ·exact h2.block _ b a
 ·exact h3 _ t a b c
theorem drop_rev {α:Type} {l:List α} {q:Nat} {o:α} (h:l[q]?=some o):(l.drop q).reverse=(l.drop (q+1)).reverse++[o]:=by
 rw [drop_at h,List.reverse_cons]
theorem end_true (r:Nat) (st:RS) (own:Own) (x:Wh) (why:Int) (n:Nat) (t:Tx) (w:World) (hm:Rep w r st own) (hlv:st.live x=(n:Int)) (hn:st.txns[n]?=some t) (hpl:st.places.length+t.olds.length < 4294967296) (hln:st.txns.length < 4294967296) (hrn:st.recs.length < 4294967296) (hen:st.ended.length < 4294967296) :
  Calls Try.prog 90 #[.pointer (some ⟨r,0,none⟩),.agg #[.int .i64 x.1,.int .i64 x.2.1,.int .i64 x.2.2],.bool true,.int .i64 why] w fun e w'=>e=.returned (.tuple #[])∧Goes own w w' r (st.endT x true why n t):=by
 have hrep:=hm
 obtain ⟨g,vp,vt,vr,ve,m⟩:=hm
 have MM:Hid (Mem w r st own g vp vt vr ve):=m
 have HL:Hid (st.live (x.1,x.2.1,x.2.2)=(n:Int)):=hlv
 have Hn:Hid (st.txns[n]?=some t):=hn
 have Hno:Hid (∀ k,w.heap.size≤k→own k=none):=fun k hk=>by
  cases hq:own k with
  | none=>rfl
  | some t=>have:=m.old k (by rw [hq]; simp); omega
 clear hlv hn m
 go_enter Try.func90,Try.ntmps90
 go_wp2_with fail
 have hA:Below w.heap.size w (w.alloc (.cells #[.int .i64 x.1,.int .i64 x.2.1,.int .i64 x.2.2] 28)):=(Below.refl _ _).alloc (Nat.le_refl _) _
 refine (live_any r st own x.1 x.2.1 x.2.2 _ (hrep.below hA)).mono ?_
 rintro e w1 ⟨rfl,hb1⟩
 rw [HL.out]
 have hB1:Below w.heap.size w w1:=hA.trans (hb1.mono hA.size)
 have hz1:w.heap.size+1≤w1.heap.size:=by have:=hb1.size; simp at this; omega
 have hX1:w1.heap[w.heap.size]?=some (.cells #[.int .i64 x.1,.int .i64 x.2.1,.int .i64 x.2.2] 28 (0,0)):=by
  rw [hb1.block _ (by simp)]; exact heap_alloc_new w _
 have HX1:Hid (w1.heap[w.heap.size]?=some (.cells #[.int .i64 x.1,.int .i64 x.2.1,.int .i64 x.2.2] 28 (0,0))):=hX1
 have M1:Hid (Mem w1 r st own g vp vt vr ve):=MM.out.below hB1
 obtain ⟨ao,cap,rfl,hmax,hel⟩:=M1.out.txns.form (len_txnC g)
 obtain ⟨bt,rfl,hbo,hbt,hrg,hfz⟩:=hel n t Hn.out
 have hlt:n < st.txns.length:=(List.getElem?_eq_some_iff.1 Hn.out).1
 have s4:w1.cell? ⟨r,4,none⟩=some (.slice (some ⟨bt,0,none⟩) st.txns.length cap):=by rw [root_cell M1.out.root]; rfl
 obtain ⟨ao2,cap2,hg1,hmax2,hel2⟩:=(M1.out.olds t (List.mem_of_getElem? Hn.out)).form len_itemC
 have zn:(n:Int) < (st.txns.length:Int):=by omega
 have HG1:Hid ((g t.who).1=.slice ao2 t.olds.length cap2):=hg1
 have HE2:Hid (∀ (k:Nat) (x:Int × Int),t.olds[k]?=some x→∃ b,ao2=some ⟨b,0,none⟩∧own b=some (6,t.who)∧b < w1.heap.size∧w1.rangeAt b (k*2) (itemV x)∧∀ j,w1.frozen? ⟨b,j,none⟩=false):=hel2
 have hl19:(txnC g t).toArray.size=19:=by simp [len_txnC]
 have hone:(txnC g t).toArray.all (·.oneCell')=true:=M1.out.oneTxn (List.mem_of_getElem? Hn.out)
 have hc4:(txnC g t)[4]?=some (.slice ao2 t.olds.length cap2):=by rw [← hg1]; rfl
 have hl19':(txnC g t).length=19:=len_txnC g t
 generalize txnC g t=tc at hrg hl19 hone hc4 hl19'
 have hsr:=fun (c c':Array Value) (ty:Nat)=>World.setRow_alloc_new w1 c c' ty
 have hca:tc.toArray[4]?=some (.slice ao2 t.olds.length cap2):=by simpa using hc4
 unfold maxLen at hmax hmax2
 have HL19:Hid (tc.toArray.size=19):=hl19
 have HL19':Hid (tc.length=19):=hl19'
 have HONE:Hid (tc.toArray.all (·.oneCell')=true):=hone
 clear hb1 hA hel hfz hg1 hel2 hX1 hl19 hl19' hone
 go_wp2_with (first | (refine wpList_load_mid rfl 162 _ rfl bt (n*19) rfl tc _ hrg Try.underlying162 rfl ?sz ?_) | (refine wpList_store_row rfl 162 _ _ rfl w1.heap.size tc.toArray rfl rfl 162 _ (heap_alloc_new w1 _) ?hsz ?hold ?hone ?_))
 case sz=>rw [HL19'.out]; exact size157
 case hsz=>rw [HL19.out]; exact size157
 case hold=>rw [HL19.out]; rfl
 case hone=>exact HONE.out
 have hAT:Below w1.heap.size w1 (w1.alloc (.cells tc.toArray 162)):=(Below.refl _ _).alloc (Nat.le_refl _) _
 have hT:(w1.alloc (.cells tc.toArray 162)).heap[w1.heap.size]?=some (.cells tc.toArray 162 (0,0)):=heap_alloc_new w1 _
 have hzT:(w1.alloc (.cells tc.toArray 162)).heap.size=w1.heap.size+1:=by simp
 generalize w1.alloc (.cells tc.toArray 162)=wT at *
 have hBT:Below w.heap.size w wT:=hB1.trans (hAT.mono (by omega))
 have HT:Hid (wT.heap[w1.heap.size]?=some (.cells tc.toArray 162 (0,0))):=hT
 have HXT:Hid (wT.heap[w.heap.size]?=some (.cells #[.int .i64 x.1,.int .i64 x.2.1,.int .i64 x.2.2] 28 (0,0))):=(hAT.block _ (by omega)).trans HX1.out
 have HzT:Hid (wT.heap.size=w1.heap.size+1):=hzT
 have MT:Hid (Mem wT r st own g vp (.slice (some ⟨bt,0,none⟩) st.txns.length cap) vr ve):=M1.out.below hAT
 have HCA:Hid (tc.toArray[4]?=some (.slice ao2 t.olds.length cap2)):=hca
 have HAT:Hid (Below w1.heap.size w1 wT):=hAT
 clear hT hzT hsr hc4 hca hrg s4 hAT
 go_loopw [10] (fun i wr=>∃ q:Nat,q≤t.olds.length∧i=.int .i64 ((q:Int) - 1)∧Hid (SetPost wT r (backTo x.lab (t.olds.drop q).reverse st) own g (.slice (some ⟨bt,0,none⟩) st.txns.length cap) vr ve wr)) (fun i _=>(intOf i+1).toNat)
 case atStart=>exact ⟨t.olds.length,Nat.le_refl _,rfl,by rw [List.drop_length]; exact ⟨own,vp,MT.out,Chg.of_below (Below.refl _ _),fun _ _ _ _ _=>rfl⟩⟩
 case round =>
  obtain ⟨q,hq,rfl,HP⟩:=hrel
  match q,hq,HP with
  | q+1,hq,HP =>
   have HP':=HP.out
   obtain ⟨own',vp',m',hchg',hkeep'⟩:=HP'
   have hlq:q < t.olds.length:=by omega
   obtain ⟨b2,rfl,hb2o,hb2,hrg2,_⟩:=HE2.out q _ (List.getElem?_eq_getElem hlq)
   have gq:=List.getElem?_eq_getElem hlq
   generalize t.olds[q]=o at hrg2 gq
   have Gq:Hid (t.olds[q]?=some o):=gq
   have hnX:own w.heap.size=none:=Hno.out _ (by omega)
   have hnT:own w1.heap.size=none:=Hno.out _ (by omega)
   have hXr:wr.heap[w.heap.size]?=some (.cells #[.int .i64 x.1,.int .i64 x.2.1,.int .i64 x.2.2] 28 (0,0)):=(hchg'.block _ (by have:=HzT.out; omega) hnX).trans HXT.out
   have hTr:wr.heap[w1.heap.size]?=some (.cells tc.toArray 162 (0,0)):=(hchg'.block _ (by have:=HzT.out; omega) hnT).trans HT.out
   have x0:wr.cell? ⟨w.heap.size,0,none⟩=some (.int .i64 x.1):=by rw [cell_of_row wr _ 0 _ _ _ hXr]; rfl
   have x1:wr.cell? ⟨w.heap.size,1,none⟩=some (.int .i64 x.2.1):=by rw [cell_of_row wr _ 1 _ _ _ hXr]; rfl
   have t4:wr.cell? ⟨w1.heap.size,4,none⟩=some (.slice (some ⟨b2,0,none⟩) t.olds.length cap2):=by rw [cell_of_row wr _ 4 _ _ _ hTr]; exact HCA.out
   have hb2r:wr.heap[b2]?=wT.heap[b2]?:=hkeep' b2 _ hb2o (by intro h; cases h) (by intro h; cases h)
   have hrg3:wr.rangeAt b2 (q*2) (itemV o):=by
    intro j u hj
    have h1:=rangeAt_below hrg2 HAT.out hb2 j u hj
    rw [World.cell?_of_block (w:=wT) hb2r]; exact h1
   have o0:wr.cell? ⟨b2,q*2,none⟩=some (.int .i64 o.1):=hrg3 0 _ rfl
   have o1:wr.cell? ⟨b2,q*2+1,none⟩=some (.int .i64 o.2):=hrg3 1 _ rfl
   have M':Hid (Mem wr r (backTo x.lab (t.olds.drop (q+1)).reverse st) own' g vp' (.slice (some ⟨bt,0,none⟩) st.txns.length cap) vr ve):=m'
   have hpl2:(backTo x.lab (t.olds.drop (q+1)).reverse st).places.length < 4294967296:=by
    have h1:=backTo_len x.lab (t.olds.drop (q+1)).reverse st
    rw [List.length_reverse,List.length_drop] at h1; omega
   have zq:(q:Int) < (t.olds.length:Int):=by omega
   have eq1:((q+1:Nat):Int) - 1=(q:Int):=by omega
   rw [eq1]
   clear hrg2 hrg3 gq hXr hTr m' hb2r eq1
   go_wp2_with fail
   have fX:(own' w.heap.size=none∧w.heap.size < wr.drew.heap.size)∨∃ t',own' w.heap.size=some t'∧t'≠(1,0,0,0)∧t'≠(2,0,0,0):=.inl ⟨hchg'.none' hnX (by have:=HzT.out; omega),by have h1:=HzT.out; have h2:=hchg'.size; show w.heap.size < wr.heap.size; omega⟩
   have fT:(own' w1.heap.size=none∧w1.heap.size < wr.drew.heap.size)∨∃ t',own' w1.heap.size=some t'∧t'≠(1,0,0,0)∧t'≠(2,0,0,0):=.inl ⟨hchg'.none' hnT (by have:=HzT.out; omega),by have h1:=HzT.out; have h2:=hchg'.size; show w1.heap.size < wr.heap.size; omega⟩
   have fO:(own' b2=none∧b2 < wr.drew.heap.size)∨∃ t',own' b2=some t'∧t'≠(1,0,0,0)∧t'≠(2,0,0,0):=.inr ⟨_,hchg'.ext _ _ hb2o,(by intro h; cases h),(by intro h; cases h)⟩
   have FX:=(show Hid _ from fX)
   have FT:=(show Hid _ from fT)
   have FO:=(show Hid _ from fO)
   have MD:Hid (Mem wr.drew r (backTo x.lab (t.olds.drop (q+1)).reverse st) own' g vp' (.slice (some ⟨bt,0,none⟩) st.txns.length cap) vr ve):=M'.out.below ((Below.refl _ _).drew)
   have HCK:Hid (Chg own wT wr own'):=hchg'
   have HKK:Hid (∀ c t,own c=some t→t≠(1,0,0,0)→t≠(2,0,0,0)→wr.heap[c]?=wT.heap[c]?):=hkeep'
   clear fX fT fO hchg' hkeep' HP
   go_region_held3 (fun w'=>w'.cell? ⟨w.heap.size,0,none⟩=some (.int .i64 x.1)∧w'.cell? ⟨w.heap.size,1,none⟩=some (.int .i64 x.2.1)∧w'.cell? ⟨w1.heap.size,4,none⟩=some (.slice (some ⟨b2,0,none⟩) t.olds.length cap2)∧w'.cell? ⟨b2,q*2,none⟩=some (.int .i64 o.1)∧w'.cell? ⟨b2,q*2+1,none⟩=some (.int .i64 o.2))
    (first | go_keep | (go_split_ands; (repeat' constructor)<;>first | exact (hsp.cell FX.out).trans (by assumption) | exact (hsp.cell FT.out).trans (by assumption) | exact (hsp.cell FO.out).trans (by assumption)))
    (first | (go_at_call 108; refine (set_mem r _ own' g vp' _ vr ve x.1 x.2.1 o.1 o.2 _ MD.out hpl2).mono ?_; rintro e w2 ⟨rfl,hsp⟩))
   go_wp2
   go_roundw
   case rel =>
    refine ⟨q,by omega,by go_num,?_⟩
    rw [drop_rev Gq.out,backTo_snoc]
    obtain ⟨own2,vp2,k1,k2,k3⟩:=hsp
    exact ⟨own2,vp2,k1,(HCK.out.trans (Chg.of_below ((Below.refl _ _).drew))).trans k2,fun c t' hc h1 h2=>by rw [k3 c t' (HCK.out.ext c t' hc) h1 h2]; exact HKK.out c t' hc h1 h2⟩
   case measure=>simp [intOf]
  | 0,hq,HP =>
   rw [List.drop_zero] at HP
   have hxt:=backTo_same x.lab t.olds.reverse st
   have Etx:Hid ((backTo x.lab t.olds.reverse st).txns=st.txns):=by unfold Hid; rw [hxt]
   have Erc:Hid ((backTo x.lab t.olds.reverse st).recs=st.recs):=by unfold Hid; rw [hxt]
   have Een:Hid ((backTo x.lab t.olds.reverse st).ended=st.ended):=by unfold Hid; rw [hxt]
   have HP1:=HP.out
   have HST:Hid (∀ tx rc en,tx=st.txns.eraseIdx n→rc=st.recs.filter (offB x)→en=(if 0 < why then st.ended++[(x,why)] else st.ended)→({ (backTo x.lab t.olds.reverse st) with txns:=tx,recs:=rc,ended:=en }:RS)=st.endT x true why n t):=by
    rintro _ _ _ rfl rfl rfl; rfl
   clear hxt
   generalize wr=wE at *
   obtain ⟨own1,vp1,m1,hchg1,hkeep1⟩:=HP1
   generalize (backTo x.lab t.olds.reverse st)=stE at *
   have hnX:own w.heap.size=none:=Hno.out _ (by omega)
   have HXE:Hid (wE.heap[w.heap.size]?=some (.cells #[.int .i64 x.1,.int .i64 x.2.1,.int .i64 x.2.2] 28 (0,0))):=(hchg1.block _ (by have:=HzT.out; omega) hnX).trans HXT.out
   have hX1n:own1 w.heap.size=none:=hchg1.none' hnX (by have:=HzT.out; omega)
   have hzE:w1.heap.size+1≤wE.heap.size:=by have:=HzT.out; have:=hchg1.size; omega
   have ME:Hid (Mem wE r stE own1 g vp1 (.slice (some ⟨bt,0,none⟩) st.txns.length cap) vr ve):=m1
   have HCE:Hid (Chg own wT wE own1):=hchg1
   have HEt:Hid (∀ (k:Nat) (y:Tx),st.txns[k]?=some y→own1 bt=some (3,0,0,0)∧bt < wE.heap.size∧wE.rangeAt bt (k*19) (txnC g y)):=by
    intro k y hy
    have h:=m1.txns
    rw [Etx.out] at h
    rcases h.at (len_txnC g) with ⟨h1,_⟩ | ⟨b',c',h1,h2,h3,_,h5,_⟩
    ·rw [h1] at hy; simp at hy
    ·simp only [Value.slice.injEq,Option.some.injEq,Addr.mk.injEq,and_true,true_and] at h1
     obtain ⟨rfl,rfl⟩:=h1
     exact ⟨h2,h3,h5 k y hy⟩
   have s4:wE.cell? ⟨r,4,none⟩=some (.slice (some ⟨bt,0,none⟩) st.txns.length cap):=by rw [root_cell m1.root]; rfl
   have HF:Hid (∀ (k:Nat) (y:Tx),st.txns[k]?=some y→(txnC g y).toArray.all (·.oneCell')=true):=fun k y hy=>m1.oneTxn (by rw [Etx.out]; exact List.mem_of_getElem? hy)
   obtain ⟨i0,hi0,hz0,hs0,hb0⟩:=info_all info157
   clear m1 hchg1 hkeep1 HP MT HE2 HCA HAT
   go_wp2_with fail
   go_loopw [11,12] (fun v i wr=>∃ k:Nat,k≤st.txns.length∧i=.int .i64 k∧wr.ownsRow wE.heap.size 162 19 v ((st.txns.take k).eraseIdx n).length (((st.txns.take k).eraseIdx n).flatMap (txnC g))∧Below wE.heap.size wE wr) (fun _ i _=>st.txns.length - (intOf i).toNat)
   case atStart=>exact ⟨0,Nat.zero_le _,rfl,by simpa using World.ownsRow_nil _ _ _ _,Below.refl _ _⟩
   case round =>
    obtain ⟨k,hk,rfl,hown,hnx⟩:=hrel
    have c4:=cell_later hnx s4
    by_cases hlk:k < st.txns.length
    ·have gk:=List.getElem?_eq_getElem hlk
     generalize st.txns[k]=y at gk
     have Gk:Hid (st.txns[k]?=some y):=gk
     have zk:(k:Int) < (st.txns.length:Int):=by omega
     by_cases hkn:k=n
     ·have hne:((k:Int) != (n:Int))=false:=by simp [hkn]
      have He:Hid ((st.txns.take (k+1)).eraseIdx n=(st.txns.take k).eraseIdx n):=erase_at gk hkn
      clear gk hkn
      go_wp2
      go_roundw
      case rel=>exact ⟨k+1,by omega,by go_num,by rw [He.out]; exact hown,hnx⟩
      case measure=>simp [intOf]; omega
     ·have hne:((k:Int) != (n:Int))=true:=by simp; omega
      have He:Hid ((st.txns.take (k+1)).eraseIdx n=(st.txns.take k).eraseIdx n++[y]):=erase_off gk hkn hlt
      obtain ⟨_,hbE,hry⟩:=HEt.out k y gk
      have hry':wr.rangeAt bt (k*19) (txnC g y):=rangeAt_below hry hnx hbE
      have hoy:=HF.out k y gk
      have hly:(txnC g y).length=19:=len_txnC g y
      have Htk:Hid (∀ l:List Tx,(l++[y]).flatMap (txnC g)=l.flatMap (txnC g)++txnC g y):=fun l=>by simp
      generalize txnC g y=tk at *
      have HLY:Hid (tk.length=19):=hly
      have HOY:Hid (tk.toArray.all (·.oneCell')=true):=hoy
      have hlen:((st.txns.take k).eraseIdx n).length≤k:=by
       have:=List.length_eraseIdx_le (st.txns.take k) n
       rw [List.length_take] at this; omega
      have hnz:=hnx.size
      clear gk hkn hry hly hoy
      go_wp2_with (first | (refine wpList_load_mid rfl 162 _ rfl bt (k*19) rfl tk _ hry' Try.underlying162 rfl ?sz ?_) | (refine wpList_buildSlice_one rfl 102 _ rfl 162 i0 _ 19 Try.underlying102 hi0 hz0 hs0 rfl (by decide) (by decide) tk.toArray rfl ?sb ?_) | (at_builtin; refine wpList_append_own _ rfl _ _ 102 rfl wE.heap.size 162 i0 _ 19 200 Try.underlying102 hi0 hz0 hs0 hb0 rfl (by decide) _ _ _ rfl (hown.alloc _) ⟨wr.heap.size,0,none⟩ 1 1 tk rfl ?c0 ?c1 ?c2 ?c3 ?c4 ?c5 ?_))
      case sz=>rw [HLY.out]; exact size157
      case sb=>simpa using HLY.out
      case c0=>rw [HLY.out]
      case c1=>exact arr_new wr tk 162
      case c2=>exact one_of HOY.out
      case c3=>unfold maxLen; omega
      case c4=>omega
      case c5=>simp; omega
      intro v' w3 hown' hgrow _
      have hb3:Below wE.heap.size wE w3:=(hnx.alloc (by omega) _).grown hgrow (by simp; omega) (fun k hk=>(hown.lt k hk).1)
      rw [show ((st.txns.take k).eraseIdx n).length+1=((st.txns.take (k+1)).eraseIdx n).length by rw [He.out]; simp,← Htk.out,← He.out] at hown'
      clear hgrow hown
      go_wp2
      go_roundw
      case rel=>first | exact ⟨k+1,by omega,by go_num,hown',hb3⟩ | ((repeat apply Exists.intro); exact ⟨⟨k+1,by omega,by go_num,hown',hb3⟩,rfl⟩)
      case measure=>simp [intOf]; omega
    ·have ek:k=st.txns.length:=by omega
     subst ek
     rw [List.take_length] at hown
     have hMe:∀ y∈st.txns.eraseIdx n,y∈stE.txns:=fun y hy=>by rw [Etx.out]; exact List.mem_of_mem_eraseIdx hy
     obtain ⟨M3,hC3,hK3⟩:=ME.out.txns_new hMe hnx hown
     obtain ⟨ua,un,uc,rfl⟩:∃ a n c,u11=.slice a n c:=by
      rcases hown.2 with ⟨h,_⟩ | ⟨b,c,d,h,_⟩
      ·exact ⟨_,_,_,h⟩
      ·exact ⟨_,_,_,h⟩
     have hrE:r < wE.heap.size:=ME.out.old r (by rw [ME.out.rootTag]; simp)
     have f4:wr.frozen? ⟨r,4,none⟩=false:=by rw [hnx.frozen (p:=⟨r,4,none⟩) hrE]; exact frozen_of_row wE r 4 _ _ ME.out.root
     have HC3:Hid (Chg own1 wE (wr.setCell ⟨r,4,none⟩ (.slice ua un uc)) (ownNew own1 (.slice ua un uc) (3,0,0,0))):=hC3
     have HM3:Hid (Mem (wr.setCell ⟨r,4,none⟩ (.slice ua un uc)) r { stE with txns:=st.txns.eraseIdx n } (ownNew own1 (.slice ua un uc) (3,0,0,0)) g vp1 (.slice ua un uc) vr ve):=M3
     clear M3 hC3 hK3 hown hMe
     go_wp2_with fail
     have hX3:(wr.setCell ⟨r,4,none⟩ (.slice ua un uc)).heap[w.heap.size]?=some (.cells #[.int .i64 x.1,.int .i64 x.2.1,.int .i64 x.2.2] 28 (0,0)):=by
      rw [HC3.out.block _ (by omega) hX1n]; exact HXE.out
     have hX3n:ownNew own1 (.slice ua un uc) (3,0,0,0) w.heap.size=none:=HC3.out.none' hX1n (by omega)
     have hz3:=HC3.out.size
     generalize ownNew own1 (.slice ua un uc) (3,0,0,0)=own3 at *
     generalize wr.setCell ⟨r,4,none⟩ (.slice ua un uc)=w3 at *
     have Erc':Hid (({ stE with txns:=st.txns.eraseIdx n }:RS).recs=st.recs):=Erc.out
     have Een':Hid (({ stE with txns:=st.txns.eraseIdx n }:RS).ended=st.ended):=Een.out
     obtain ⟨ao5,cap5,hvr5,hmax5,hel5⟩:=HM3.out.recs.form len_recC
     rw [Erc'.out] at hvr5 hmax5 hel5
     subst hvr5
     have HE5:Hid (∀ (k:Nat) (y:Rc),st.recs[k]?=some y→∃ b,ao5=some ⟨b,0,none⟩∧own3 b=some (4,0,0,0)∧b < w3.heap.size∧w3.rangeAt b (k*10) (recC y)∧∀ j,w3.frozen? ⟨b,j,none⟩=false):=hel5
     have s5:w3.cell? ⟨r,5,none⟩=some (.slice ao5 st.recs.length cap5):=by rw [root_cell HM3.out.root]; rfl
     obtain ⟨j0,hj0,hzr0,hsr0,hbr0⟩:=info_all info108
     unfold maxLen at hmax5
     have HX3:Hid (w3.heap[w.heap.size]?=some (.cells #[.int .i64 x.1,.int .i64 x.2.1,.int .i64 x.2.2] 28 (0,0))):=hX3
     clear hel5 hX3 s4 hnx c4 f4
     go_loopw [13,14] (fun v i wr=>∃ k:Nat,k≤st.recs.length∧i=.int .i64 k∧wr.ownsRow w3.heap.size 108 10 v ((st.recs.take k).filter (offB x)).length (((st.recs.take k).filter (offB x)).flatMap recC)∧Below w3.heap.size w3 wr) (fun _ i _=>st.recs.length - (intOf i).toNat)
     case atStart=>exact ⟨0,Nat.zero_le _,rfl,by simpa using World.ownsRow_nil _ _ _ _,Below.refl _ _⟩
     case round =>
      obtain ⟨k,hk,rfl,hown,hnx⟩:=hrel
      have c5:=cell_later hnx s5
      have hXr:wr.heap[w.heap.size]?=some (.cells #[.int .i64 x.1,.int .i64 x.2.1,.int .i64 x.2.2] 28 (0,0)):=(hnx.block _ (by omega)).trans HX3.out
      have x0:wr.cell? ⟨w.heap.size,0,none⟩=some (.int .i64 x.1):=by rw [cell_of_row wr _ 0 _ _ _ hXr]; rfl
      have x1:wr.cell? ⟨w.heap.size,1,none⟩=some (.int .i64 x.2.1):=by rw [cell_of_row wr _ 1 _ _ _ hXr]; rfl
      have x2:wr.cell? ⟨w.heap.size,2,none⟩=some (.int .i64 x.2.2):=by rw [cell_of_row wr _ 2 _ _ _ hXr]; rfl
      by_cases hlk:k < st.recs.length
      ·obtain ⟨b5,rfl,_,hb5,hrg5,_⟩:=HE5.out k _ (List.getElem?_eq_getElem hlk)
       have gk:=List.getElem?_eq_getElem hlk
       generalize st.recs[k]=y at hrg5 gk
       have hrg6:wr.rangeAt b5 (k*10) (recC y):=rangeAt_below hrg5 hnx hb5
       obtain ⟨y0,y1,y2,y3,y4,y5,y6,y7,y8,y9⟩:=rec_cells hrg6
       have zk:(k:Int) < (st.recs.length:Int):=by omega
       have q:(st.recs.take (k+1)).filter (offB x)=(st.recs.take k).filter (offB x)++(if offB x y then [y] else []):=by
        rw [List.take_add_one,gk,List.filter_append]
        simp only [Option.toList_some,List.filter_cons,List.filter_nil]
       have Q:Hid ((st.recs.take (k+1)).filter (offB x)=(st.recs.take k).filter (offB x)++(if offB x y then [y] else [])):=q
       have kne:=kin_some wr
       have k5:=kin_cell c5
       have kx0:=kin_cell x0
       have kx1:=kin_cell x1
       have kx2:=kin_cell x2
       have ky0:=kin_cell y0
       have ky1:=kin_cell y1
       have ky2:=kin_cell y2
       have hnz:=hnx.size
       clear hrg5 hrg6 gk q hXr
       cases hs:sameW y.who.1 y.who.2.1 y.who.2.2 x.1 x.2.1 x.2.2
       ·have Q2:Hid ((st.recs.take (k+1)).filter (offB x)=(st.recs.take k).filter (offB x)++[y]):=by
         unfold Hid; rw [Q.out,if_pos (by unfold offB; rw [hs]; rfl)]
        go_wp2_with fail
        refine wp_region_kin (by kernel_rfl) (by kernel_rfl) ?_
        repeat (first | go_big_quiet_step ((go_at_call 46; exact Calls.kin (sameWho_is hs _))) | quiet_step ((go_at_call 46; exact Calls.kin (sameWho_is hs _))))
        refine wpQuiet_nil ?_
        intro _ hw'
        obtain ⟨xq,hw''⟩:=hw'
        subst hw''
        have hBq:Below w3.heap.size w3 xq.w:=hnx.trans (xq.h.mono hnz)
        have hownq:=ownsRow_below hown xq.h
        have d5:=k5 xq
        have d0:=cell_later xq.h y0
        have d1:=cell_later xq.h y1
        have d2:=cell_later xq.h y2
        have d3:=cell_later xq.h y3
        have d4:=cell_later xq.h y4
        have d5':=cell_later xq.h y5
        have d6:=cell_later xq.h y6
        have d7:=cell_later xq.h y7
        have d8:=cell_later xq.h y8
        have d9:=cell_later xq.h y9
        have hlen:((st.recs.take k).filter (offB x)).length≤k:=by
         have h1:=List.length_filter_le (offB x) (st.recs.take k)
         rw [List.length_take] at h1; omega
        have hzq:=hBq.size
        clear k5 kx0 kx1 kx2 ky0 ky1 ky2 y0 y1 y2 y3 y4 y5 y6 y7 y8 y9 x0 x1 x2 c5 hown hnx
        go_wp2_with (at_builtin; refine wpList_append_own _ rfl _ _ 103 rfl w3.heap.size 108 j0 _ 10 72 Try.underlying103 hj0 hzr0 hsr0 hbr0 rfl (by decide) _ _ _ rfl (hownq.alloc _) ⟨xq.w.heap.size,0,none⟩ 1 1 (recC y) rfl rfl ?c1 ?c2 ?c3 ?c4 ?c5 ?_)
        case c1=>exact arr_new xq.w (recC y) 108
        case c2=>intro u hu; simp [recC] at hu; rcases hu with rfl | rfl | rfl | rfl | rfl | rfl | rfl | rfl | rfl | rfl<;>rfl
        case c3=>unfold maxLen; omega
        case c4=>omega
        case c5=>simp; omega
        intro v' w4 hown' hgrow _
        have hb4:Below w3.heap.size w3 w4:=(hBq.alloc (by omega) _).grown hgrow (by simp; omega) (fun k hk=>(hownq.lt k hk).1)
        rw [show ((st.recs.take k).filter (offB x)).length+1=((st.recs.take (k+1)).filter (offB x)).length by rw [Q2.out]; simp,
         show ((st.recs.take k).filter (offB x)).flatMap recC++recC y=((st.recs.take (k+1)).filter (offB x)).flatMap recC by rw [Q2.out]; simp] at hown'
        clear hgrow hownq
        go_wp2
        go_roundw
        case rel=>first | exact ⟨k+1,by omega,by go_num,hown',hb4⟩ | ((repeat apply Exists.intro); exact ⟨⟨k+1,by omega,by go_num,hown',hb4⟩,rfl⟩)
        case measure=>simp [intOf]; omega
       ·have Q2:Hid ((st.recs.take (k+1)).filter (offB x)=(st.recs.take k).filter (offB x)):=by
         unfold Hid; rw [Q.out,if_neg (by unfold offB; rw [hs]; simp),List.append_nil]
        go_wp2_with fail
        refine wp_region_kin (by kernel_rfl) (by kernel_rfl) ?_
        repeat (first | go_big_quiet_step ((go_at_call 46; exact Calls.kin (sameWho_is hs _))) | quiet_step ((go_at_call 46; exact Calls.kin (sameWho_is hs _))))
        refine wpQuiet_nil ?_
        intro _ hw'
        obtain ⟨xq,hw''⟩:=hw'
        subst hw''
        have hBq:Below w3.heap.size w3 xq.w:=hnx.trans (xq.h.mono hnz)
        have hownq:=ownsRow_below hown xq.h
        clear hown
        go_wp2
        go_roundw
        case rel=>first | exact ⟨k+1,by omega,by go_num,by rw [Q2.out]; exact hownq,hBq⟩ | ((repeat apply Exists.intro); exact ⟨⟨k+1,by omega,by go_num,by rw [Q2.out]; exact hownq,hBq⟩,rfl⟩)
        case measure=>simp [intOf]; omega
      ·have ek:k=st.recs.length:=by omega
       subst ek
       rw [List.take_length] at hown
       obtain ⟨M5,hC5,hK5⟩:=HM3.out.recs_new hnx hown
       obtain ⟨va,vn,vc,rfl⟩:∃ a n c,u13=.slice a n c:=by
        rcases hown.2 with ⟨h,_⟩ | ⟨b,c,d,h,_⟩
        ·exact ⟨_,_,_,h⟩
        ·exact ⟨_,_,_,h⟩
       have hr3:r < w3.heap.size:=HM3.out.old r (by rw [HM3.out.rootTag]; simp)
       have f5:wr.frozen? ⟨r,5,none⟩=false:=by rw [hnx.frozen (p:=⟨r,5,none⟩) hr3]; exact frozen_of_row w3 r 5 _ _ HM3.out.root
       have HC5:Hid (Chg own3 w3 (wr.setCell ⟨r,5,none⟩ (.slice va vn vc)) (ownNew own3 (.slice va vn vc) (4,0,0,0))):=hC5
       have HM5:Hid (Mem (wr.setCell ⟨r,5,none⟩ (.slice va vn vc)) r { stE with txns:=st.txns.eraseIdx n,recs:=st.recs.filter (offB x) } (ownNew own3 (.slice va vn vc) (4,0,0,0)) g vp1 (.slice ua un uc) (.slice va vn vc) ve):=M5
       have HX5:Hid ((wr.setCell ⟨r,5,none⟩ (.slice va vn vc)).heap[w.heap.size]?=some (.cells #[.int .i64 x.1,.int .i64 x.2.1,.int .i64 x.2.2] 28 (0,0))):=by
        unfold Hid
        rw [HC5.out.block _ (by omega) hX3n]; exact HX3.out
       have hX5n:ownNew own3 (.slice va vn vc) (4,0,0,0) w.heap.size=none:=HC5.out.none' hX3n (by omega)
       have hz5:=HC5.out.size
       clear M5 hC5 hK5 hown x0 x1 x2 hXr s5
       by_cases hw:0 < why
       ·have HW:Hid (0 < why):=hw
        go_wp2_with fail
        generalize ownNew own3 (.slice va vn vc) (4,0,0,0)=own5 at *
        generalize wr.setCell ⟨r,5,none⟩ (.slice va vn vc)=w5 at *
        clear hnx f5 c5
        obtain ⟨ao6,cap6,hve6,hmax6,_⟩:=HM5.out.ended.form len_endC
        rw [Een'.out] at hve6 hmax6
        subst hve6
        unfold maxLen at hmax6
        obtain ⟨k0,hk0,hze0,hse0,hbe0⟩:=info_all info164
        have s6:w5.cell? ⟨r,6,none⟩=some (.slice ao6 st.ended.length cap6):=by rw [root_cell HM5.out.root]; rfl
        have hf6:w5.frozen? ⟨r,6,none⟩=false:=frozen_of_row w5 r 6 _ _ HM5.out.root
        have z0:w5.cell? ⟨w.heap.size,0,none⟩=some (.int .i64 x.1):=by rw [cell_of_row w5 _ 0 _ _ _ HX5.out]; rfl
        have z1:w5.cell? ⟨w.heap.size,1,none⟩=some (.int .i64 x.2.1):=by rw [cell_of_row w5 _ 1 _ _ _ HX5.out]; rfl
        have z2:w5.cell? ⟨w.heap.size,2,none⟩=some (.int .i64 x.2.2):=by rw [cell_of_row w5 _ 2 _ _ _ HX5.out]; rfl
        have hr5:r < w5.heap.size:=by omega
        have hx5:w.heap.size < w5.heap.size:=by omega
        have hS:(fun w':World=>w'.cell? ⟨r,6,none⟩=some (.slice ao6 st.ended.length cap6)∧w'.cell? ⟨w.heap.size,0,none⟩=some (.int .i64 x.1)∧w'.cell? ⟨w.heap.size,1,none⟩=some (.int .i64 x.2.1)∧w'.cell? ⟨w.heap.size,2,none⟩=some (.int .i64 x.2.2)) w5.drew:=⟨s6,z0,z1,z2⟩
        refine wp_region_Z (z:=12) (S:=fun w'=>w'.cell? ⟨r,6,none⟩=some (.slice ao6 st.ended.length cap6)∧w'.cell? ⟨w.heap.size,0,none⟩=some (.int .i64 x.1)∧w'.cell? ⟨w.heap.size,1,none⟩=some (.int .i64 x.2.1)∧w'.cell? ⟨w.heap.size,2,none⟩=some (.int .i64 x.2.2)) (by kernel_rfl) ?_
        refine zT (i:=0) (v:=?v1) (by decide +kernel) rfl (fun _ _ _ h=>h) hS (.inl ⟨by rfl,?y1⟩) ?_
        case y1=>(rintro wz ⟨zs0,zs1,zs2,zs3⟩; go_simp<;>with_reducible rfl)
        simp only [Act.put,z1,z2,z3,z4,z5,z6]
        refine zT (i:=1) (v:=?v2) (by decide +kernel) rfl (fun _ _ _ h=>h) hS (.inl ⟨by rfl,?y2⟩) ?_
        case y2=>(rintro wz ⟨zs0,zs1,zs2,zs3⟩; go_simp<;>with_reducible rfl)
        simp only [Act.put,z1,z2,z3,z4,z5,z6]
        refine zT (i:=2) (v:=?v3) (by decide +kernel) rfl (fun _ _ _ h=>h) hS (.inl ⟨by rfl,?y3⟩) ?_
        case y3=>(rintro wz ⟨zs0,zs1,zs2,zs3⟩; go_simp<;>with_reducible rfl)
        simp only [Act.put,z1,z2,z3,z4,z5,z6]
        refine zT (i:=3) (v:=?v4) (by decide +kernel) rfl (fun _ _ _ h=>h) hS (.inl ⟨by rfl,?y4⟩) ?_
        case y4=>(rintro wz ⟨zs0,zs1,zs2,zs3⟩; go_simp<;>with_reducible rfl)
        simp only [Act.put,z1,z2,z3,z4,z5,z6]
        refine zT (i:=4) (v:=?v5) (by decide +kernel) rfl (fun _ _ _ h=>h) hS (.inl ⟨by rfl,?y5⟩) ?_
        case y5=>(rintro wz ⟨zs0,zs1,zs2,zs3⟩; go_simp<;>with_reducible rfl)
        simp only [Act.put,z1,z2,z3,z4,z5,z6]
        refine zT (i:=5) (v:=?v6) (by decide +kernel) rfl (fun _ _ _ h=>h) hS (.inl ⟨by rfl,?y6⟩) ?_
        case y6=>(rintro wz ⟨zs0,zs1,zs2,zs3⟩; go_simp<;>with_reducible rfl)
        simp only [Act.put,z1,z2,z3,z4,z5,z6]
        refine zT (i:=6) (v:=?v7) (by decide +kernel) rfl (fun _ _ _ h=>h) hS (.inl ⟨by rfl,?y7⟩) ?_
        case y7=>(rintro wz ⟨zs0,zs1,zs2,zs3⟩; go_simp<;>with_reducible rfl)
        simp only [Act.put,z1,z2,z3,z4,z5,z6]
        refine zT (i:=7) (v:=?v8) (by decide +kernel) rfl (fun _ _ _ h=>h) hS (.inl ⟨by rfl,?y8⟩) ?_
        case y8=>(rintro wz ⟨zs0,zs1,zs2,zs3⟩; go_simp<;>with_reducible rfl)
        simp only [Act.put,z1,z2,z3,z4,z5,z6]
        refine wpAnyZ_one (i:=8) (by decide +kernel) rfl (fun K hK=>?_)
        go_simp
        have nlt:∀ q,q < w5.heap.size→∀ j v,w5.cell? ⟨q,j,none⟩=some v→(w5.alloc (.cells #[.int .i64 x.1,.int .i64 x.2.1,.int .i64 x.2.2,.int .i64 why] 173)).drew.cell? ⟨q,j,none⟩=some v:=fun q hq j v h=>by
         rw [World.cell?_drew,World.cell?_alloc_lt _ _ _ hq]; exact h
        refine hK _ _ (fun _=>⟨nlt _ hr5 _ _ s6,nlt _ hx5 _ _ z0,nlt _ hx5 _ _ z1,nlt _ hx5 _ _ z2⟩) ?_
        clear hK
        have hrow6:=HM5.out.ended.1
        rw [Een'.out] at hrow6
        have HROW6:Hid (w5.ownsRow 0 173 4 (.slice ao6 st.ended.length cap6) st.ended.length (st.ended.flatMap endC)):=hrow6
        clear hrow6
        refine wpAnyZ_one (i:=9) (by decide +kernel) rfl (fun K hK=>?_)
        refine step_append_lies _ (by rfl) _ _ _ (by rfl) 0 173 k0 _ 4 32 Try.underlying104 hk0 hze0 hse0 hbe0 rfl (by omega) (.slice ao6 st.ended.length cap6) st.ended.length (st.ended.flatMap endC) (by rfl) ((HROW6.out.alloc _).drew)
         ⟨w5.heap.size,0,none⟩ 1 1 [.int .i64 x.1,.int .i64 x.2.1,.int .i64 x.2.2,.int .i64 why] (by rfl) (by rfl) (World.news_of_block (cs:=#[.int .i64 x.1,.int .i64 x.2.1,.int .i64 x.2.2,.int .i64 why]) (t:=173) (fr:=(0,0)) (heap_alloc_new w5 _)) (by simp [Value.oneCell'])
         (by omega) (by unfold maxLen; omega) (by omega) (Nat.zero_le _) (w5.heap.size+1) (by simp) ?_
        intro gg cap' w6 hown6 hgrow hat hlt6
        simp only [Act.put,List.getElem_toArray,List.getElem_cons_zero,List.getElem_cons_succ,List.setIfInBounds_toArray,List.set_cons_zero,List.set_cons_succ]
        have hnb:∀ q,(Value.slice ao6 st.ended.length cap6).ownBlock=some q→own5 q=some (5,0,0,0):=HM5.out.ended.2
        have nr:(Value.slice ao6 st.ended.length cap6).ownBlock≠some r:=fun e=>by have:=hnb r e; rw [HM5.out.rootTag] at this; cases this
        have nx:(Value.slice ao6 st.ended.length cap6).ownBlock≠some w.heap.size:=fun e=>by have:=hnb _ e; rw [hX5n] at this; cases this
        have q6:=hgrow.cell (nlt _ hr5 _ _ s6) (Ne.symm nr)
        have y0:=hgrow.cell (nlt _ hx5 _ _ z0) (Ne.symm nx)
        have y1:=hgrow.cell (nlt _ hx5 _ _ z1) (Ne.symm nx)
        have y2:=hgrow.cell (nlt _ hx5 _ _ z2) (Ne.symm nx)
        have fo:w6.frozen? ⟨r,6,none⟩=false:=by
         rw [World.frozen?_of_block (hgrow.block r (by simp; omega) (Ne.symm nr))]
         rw [World.frozen?_drew,World.frozen?_alloc_past _ _ _ (by omega)]; exact hf6
        refine hK _ _ (fun _=>⟨q6,y0,y1,y2⟩) ?_
        clear hK
        refine wpAnyZ_one (i:=10) (by decide +kernel) rfl (fun K hK=>?_)
        go_simp
        refine hK _ _ (fun _=>⟨q6,y0,y1,y2⟩) ?_
        clear hK
        refine wpAnyZ_one (i:=11) (by decide +kernel) rfl (fun K hK=>?_)
        go_simp
        refine hK _ _ (fun _=>⟨q6,y0,y1,y2⟩) ?_
        clear hK
        refine wpAnyZ_one (i:=12) (by decide +kernel) rfl (fun K hK=>?_)
        go_simp
        refine hK _ _ (fun h=>absurd rfl h) ?_
        clear hK
        refine wpAnyZ_done (by decide +kernel) ?_ _
        have hfin:Goes own w (w6.setCell ⟨r,6,none⟩ (.slice (some ⟨gg,0,none⟩) (st.ended.length+1) cap')) r (st.endT x true why n t):=by
         have M5:Mem w5 r { stE with txns:=st.txns.eraseIdx n,recs:=st.recs.filter (offB x),ended:=st.ended } own5 g vp1 (.slice ua un uc) (.slice va vn vc) (.slice ao6 st.ended.length cap6):=by
          have h:=HM5.out
          rw [← Een.out] at h ⊢
          exact h
         obtain ⟨own6,hrep6,hchg6⟩:=M5.ended_app (W:=(w5.alloc (.cells #[.int .i64 x.1,.int .i64 x.2.1,.int .i64 x.2.2,.int .i64 why] 173)).drew) (H:=w5.heap.size+1) (x:=(x,why)) (fun k hk=>Below.heap_alloc _ _ _ hk) (by simp) rfl rfl rfl hgrow hown6 hat (by omega) hlt6
         refine ⟨own6,?_,(Chg.of_below hBT).trans (HCE.out.trans (HC3.out.trans (HC5.out.trans hchg6)))⟩
         rw [← HST.out _ _ _ rfl rfl (by rw [if_pos HW.out])]
         exact hrep6
        clear hgrow hown6 hat hlt6 q6 y0 y1 y2 fo z0 z1 z2 s6 nlt
        go_wp2
        go_end0
        exact ⟨rfl,hfin⟩
       ·have HW:Hid (¬ 0 < why):=hw
        have hfin:Goes own w (wr.setCell ⟨r,5,none⟩ (.slice va vn vc)) r (st.endT x true why n t):=by
         refine ⟨_,⟨g,vp1,.slice ua un uc,.slice va vn vc,ve,?_⟩,(Chg.of_below hBT).trans (HCE.out.trans (HC3.out.trans HC5.out))⟩
         have:=HM5.out
         rw [← HST.out _ _ _ rfl rfl (by rw [if_neg hw])]
         rw [← Een.out]
         exact this
        go_wp2
        go_end0
        exact ⟨rfl,hfin⟩
end Go.Proofs.Ytpbcplfpjcacfaa
