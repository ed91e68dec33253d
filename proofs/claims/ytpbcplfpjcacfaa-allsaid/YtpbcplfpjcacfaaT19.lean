import Derived.Test.YtpbcplfpjcacfaaT18
namespace Go.Proofs.Ytpbcplfpjcacfaa
open Go.RowKit
set_option maxRecDepth 100000
set_option maxHeartbeats 8000000
theorem code_do {r:Nat} {st:RS} {own:Own} {w:World} (c:Int) (hm:Rep w r st own):Calls Try.prog 85 #[.int .i64 c] w (DoPost own w r st ⟨c,0,[]⟩):=by
 refine (code_any c w).mono ?_
 rintro e w' ⟨rfl,hb⟩
 exact ⟨_,own,rfl,World.ownsRow_nil _ _ _ _,hm.below hb,(Chg.of_below hb).toD,fun b hv=>by simp [Value.ownBlock] at hv⟩
theorem below_do {r:Nat} {st:RS} {own:Own} {w w':World} {c:Int} {e:Ending} (hm:Rep w r st own) (h:e=.returned (ansV c 0 (.slice none 0 0))∧Below w.heap.size w w'):DoPost own w r st ⟨c,0,[]⟩ e w':=by
 obtain ⟨rfl,hb⟩:=h
 exact ⟨_,own,rfl,World.ownsRow_nil _ _ _ _,hm.below hb,(Chg.of_below hb).toD,fun b hv=>by simp [Value.ownBlock] at hv⟩
theorem poll_do {N:Nat} (r:Nat) (st:RS) (own:Own) (x:Wh) (w:World) (hm:Rep w r st own) (F:st.Fit N) :
  Calls Try.prog 89 #[.pointer (some ⟨r,0,none⟩),.int .i64 (st.live x),.int .i64 (st.waiting x)] w (DoPost own w r (st.pollT x).1 (st.pollT x).2):=by
 rcases waiting_cases st x with ⟨hw,hn⟩ | ⟨m,q,hw,hq,hn⟩
 ·rcases txOf_cases st x with ⟨h1,h2,h3⟩ | ⟨k,t,h1,h2,h3,h4⟩
  ·have e:st.pollT x=(st,⟨8,0,[]⟩):=by unfold RS.pollT RS.isReady; rw [hn,h1]; rfl
   rw [e]
   exact (poll_none r _ _ w (by omega) (by omega)).mono (fun _ _ h=>below_do hm h)
  ·cases hr:t.ready
   ·have e:st.pollT x=(st,⟨8,0,[]⟩):=by unfold RS.pollT RS.isReady; rw [hn,h1]; simp [hr]
    rw [e,h2]
    exact (poll_idle r st own k t _ w hm h3 hr (by omega)).mono (fun _ _ h=>below_do hm h)
   ·have e:st.pollT x=({ st with txns:=st.txns.set k { t with ready:=false } },t.told):=by
     unfold RS.pollT RS.isReady RS.toldOf; rw [hn,h1,← unready_at F.uniq h3 h4]; simp [hr]
    rw [e,h2]
    refine (poll_told r st own k t _ w hm h3 hr (by omega)).mono ?_
    rintro e w' ⟨v,rfl,hrow,hrep,hchg⟩
    obtain ⟨g,vp,vt,vr,ve,m⟩:=hrep
    have hdrop:∀ u∈st.txns.set k { t with ready:=false },u.who=t.who→u.ready=false:=by
     intro u hu hw'
     obtain ⟨j,hj⟩:=List.mem_iff_getElem?.1 hu
     by_cases hjk:k=j
     ·subst hjk
      rw [List.getElem?_set_self (List.getElem?_eq_some_iff.1 h3).1] at hj
      rw [← Option.some.inj hj]
     ·rw [List.getElem?_set_ne hjk] at hj
      exact absurd (F.uniq k j t u h3 hj hw'.symm) hjk
    refine ⟨v,own.drop (8,t.who),rfl,hrow.1,⟨g,vp,vt,vr,ve,m.drop hdrop⟩,⟨hchg.os,hchg.tape,hchg.output,hchg.size,hchg.block,fun b hb=>.inl (fun e=>hb (by unfold Own.drop; rw [e]; simp))⟩,fun b hb=>?_⟩
    have:=hrow.2 b hb
    exact ⟨by unfold Own.drop; rw [if_pos this],.inl (by rw [this]; simp)⟩
 ·have e:st.pollT x=(st,⟨1,0,[]⟩):=by unfold RS.pollT; rw [hn]; rfl
  rw [e,hw]
  exact (poll_blocked r _ _ w (by omega)).mono (fun _ _ h=>below_do hm h)
theorem begin_do {N:Nat} (r:Nat) (st:RS) (own:Own) (x:Wh) (w:World) (hm:Rep w r st own) (F:st.Fit N) (hNb:N+1 < 4398046511104) :
  Calls Try.prog 92 #[.pointer (some ⟨r,0,none⟩),.agg #[.int .i64 x.1,.int .i64 x.2.1,.int .i64 x.2.2],.int .i64 (st.live x)] w (DoPost own w r (st.startT x).1 (st.startT x).2):=by
 rcases txOf_cases st x with ⟨h1,h2,h3⟩ | ⟨k,t,h1,h2,h3,h4⟩
 ·have hb:=F.begun
  have hL:=F.txnsL
  refine (begin_new r st own x _ w hm (by omega) h3 (by omega) (by omega)).mono ?_
  rintro e w' (⟨hq,rfl,hb'⟩ | ⟨hq,rfl,own',hr,hc⟩)
  ·have e:st.startT x=(st,⟨4,0,[]⟩):=by unfold RS.startT; rw [h1,if_neg (by simp),if_pos hq]
   rw [e]; exact below_do hm ⟨rfl,hb'⟩
  ·have e:st.startT x=(st.beginT x,⟨0,0,[]⟩):=by unfold RS.startT; rw [h1,if_neg (by simp),if_neg hq]
   rw [e]
   exact ⟨_,own',rfl,World.ownsRow_nil _ _ _ _,hr,hc.toD,fun b hv=>by simp [Value.ownBlock] at hv⟩
 ·have e:st.startT x=(st,⟨6,0,[]⟩):=by unfold RS.startT; rw [h1]; rfl
  rw [e]
  exact (begin_live r x _ w (by omega)).mono (fun _ _ h=>below_do hm h)
theorem ownsRow_off {w:World} {B e size n R j:Nat} {v u:Value} {xs:List Value} (h:w.ownsRow B e size v n xs) (hR:∀ b,v.ownBlock=some b→b≠R):(w.setCell ⟨R,j,none⟩ u).ownsRow B e size v n xs:=by
 obtain ⟨hl,ho⟩:=h
 refine ⟨hl,?_⟩
 rcases ho with h | ⟨b,c,d,e1,e2,e3,e4⟩
 ·exact .inl h
 ·exact .inr ⟨b,c,d,e1,e2,by rw [heap_setCell_ne _ _ _ _ _ (hR b (by rw [e1]; rfl))]; exact e3,e4⟩
theorem do_pass {own own2 own5:Own} {w w4 w5:World} {r R:Nat} {st:RS} {a:Ans} {v:Value} (hC:Chg own w w4 own2) (hrow:w5.ownsRow 0 94 2 v a.items.length (itemsV a.items)) (hrep:Rep w5 r st own5) (hchg:ChgD own2 w4 w5 own5)
  (hv:∀ b,v.ownBlock=some b→own5 b=none∧(own2 b≠none∨w4.heap.size≤b)) (hR2:own2 R=none) (hRl:R < w4.heap.size) (hw:w.heap.size≤R) :
  DoPost own w r st a (.returned (.agg #[.int .i64 a.code,.int .i64 a.why,v])) (((w5.setCell ⟨R,0,none⟩ (.int .i64 a.code)).setCell ⟨R,1,none⟩ (.int .i64 a.why)).setCell ⟨R,2,none⟩ v):=by
 have hne:∀ b,v.ownBlock=some b→b≠R:=fun b hb e=>by
  rcases (hv b hb).2 with h | h
  ·exact h (by rw [e]; exact hR2)
  ·omega
 have hf:own5 R=none:=hchg.off hR2 hRl
 refine ⟨v,own5,rfl,ownsRow_off (ownsRow_off (ownsRow_off hrow hne) hne) hne,((hrep.free (j:=0) hf _).free (j:=1) hf _).free (j:=2) hf _,(((hC.toD.trans hchg).free (j:=0) hw _).free (j:=1) hw _).free (j:=2) hw _,fun b hb=>⟨(hv b hb).1,?_⟩⟩
 rcases (hv b hb).2 with h | h
 ·exact hC.fresh b h
 ·exact .inr (Nat.le_trans hC.size h)
theorem do_any {N:Nat} (r:Nat) (st:RS) (own:Own) (x:Stp) (w:World) (hm:Rep w r st own) (F:st.Fit N) (hc:st.c≤32) (hNb:N+1 < 4398046511104) :
  Calls Try.prog 67 #[.pointer (some ⟨r,0,none⟩),stepV x] w (DoPost own w r (st.doT x).1 (st.doT x).2):=by
 have Hfr:Hid (∀ k,w.heap.size≤k→own k=none):=hm.fresh
 have HF:Hid (st.Fit N):=F
 have hpr:=proper_any x
 have hel:=F.endL
 unfold stepV at hpr ⊢
 clear F
 go_enter Try.func67,Try.ntmps67
 go_wp2_with fail
 have hA:Below w.heap.size w ((w.alloc (.cells #[.int .i64 x.who.1,.int .i64 x.who.2.1,.int .i64 x.who.2.2,.int .i64 x.op,.int .i64 x.at_.1,.int .i64 x.at_.2,.int .i64 x.key,.int .i64 x.to_,.int .i64 x.value] 30)).alloc (.cells #[.int .i64 0,.int .i64 0,.slice none 0 0] 66)):=below2r
 have hX:Hid (((w.alloc (.cells #[.int .i64 x.who.1,.int .i64 x.who.2.1,.int .i64 x.who.2.2,.int .i64 x.op,.int .i64 x.at_.1,.int .i64 x.at_.2,.int .i64 x.key,.int .i64 x.to_,.int .i64 x.value] 30)).alloc (.cells #[.int .i64 0,.int .i64 0,.slice none 0 0] 66)).heap[w.heap.size]?=some (.cells (stepC x).toArray 30 (0,0))):=by
  unfold Hid; rw [Below.heap_alloc _ _ _ (by simp)]; exact heap_alloc_new w _
 have hR:Hid (((w.alloc (.cells #[.int .i64 x.who.1,.int .i64 x.who.2.1,.int .i64 x.who.2.2,.int .i64 x.op,.int .i64 x.at_.1,.int .i64 x.at_.2,.int .i64 x.key,.int .i64 x.to_,.int .i64 x.value] 30)).alloc (.cells #[.int .i64 0,.int .i64 0,.slice none 0 0] 66)).heap[w.heap.size+1]?=some (.cells #[.int .i64 0,.int .i64 0,.slice none 0 0] 66 (0,0))):=by
  unfold Hid
  have:=heap_alloc_new (w.alloc (.cells #[.int .i64 x.who.1,.int .i64 x.who.2.1,.int .i64 x.who.2.2,.int .i64 x.op,.int .i64 x.at_.1,.int .i64 x.at_.2,.int .i64 x.key,.int .i64 x.to_,.int .i64 x.value] 30)) (.cells #[.int .i64 0,.int .i64 0,.slice none 0 0] 66 (0,0))
  rw [World.size_alloc] at this; exact this
 have hzA:Hid (((w.alloc (.cells #[.int .i64 x.who.1,.int .i64 x.who.2.1,.int .i64 x.who.2.2,.int .i64 x.op,.int .i64 x.at_.1,.int .i64 x.at_.2,.int .i64 x.key,.int .i64 x.to_,.int .i64 x.value] 30)).alloc (.cells #[.int .i64 0,.int .i64 0,.slice none 0 0] 66)).heap.size=w.heap.size+2):=by unfold Hid; simp
 generalize (w.alloc (.cells #[.int .i64 x.who.1,.int .i64 x.who.2.1,.int .i64 x.who.2.2,.int .i64 x.op,.int .i64 x.at_.1,.int .i64 x.at_.2,.int .i64 x.key,.int .i64 x.to_,.int .i64 x.value] 30)).alloc (.cells #[.int .i64 0,.int .i64 0,.slice none 0 0] 66)=wA at *
 have hpc:=hpr wA
 clear hpr
 have hfR:own (w.heap.size+1)=none:=Hfr.out _ (by omega)
 have hfX:own w.heap.size=none:=Hfr.out _ (Nat.le_refl _)
 cases hp:properB x
 ·rw [hp] at hpc
  have Hf:Hid (st.doT x=(st,⟨9,0,[]⟩)):=by unfold Hid RS.doT; rw [if_pos hp]
  go_wp2_with fail
  refine hpc.mono ?_
  clear hpc
  rintro e w1 ⟨rfl,hb1⟩
  have hB1:Below w.heap.size w w1:=hA.trans (hb1.mono hA.size)
  have HR1:Hid (w1.heap[w.heap.size+1]?=some (.cells #[.int .i64 0,.int .i64 0,.slice none 0 0] 66 (0,0))):=by unfold Hid; rw [hb1.block _ (by have:=hzA.out; omega)]; exact hR.out
  have hz1:w.heap.size+2≤w1.heap.size:=by have:=hb1.size; have:=hzA.out; omega
  clear hb1
  go_wp2_with fail
  refine (code_do 9 (hm.below hB1)).mono ?_
  rintro e w5 ⟨v,own5,rfl,hrow5,hrep5,hchg5,hv5⟩
  obtain ⟨ao5,cap5,rfl⟩:=ownsRow_slice hrow5
  have hR5:w5.heap[w.heap.size+1]?=some (.cells #[.int .i64 0,.int .i64 0,.slice none 0 0] 66 (0,0)):=by rw [hchg5.block _ (by omega) hfR]; exact HR1.out
  obtain ⟨e0,e1,e2,f0,f1,f2⟩:=ans_cells hR5
  have HS:Hid (type_of% (ans_stored (.int .i64 (⟨9,0,[]⟩:Ans).code) (.int .i64 (⟨9,0,[]⟩:Ans).why) (.slice ao5 (⟨9,0,[]⟩:Ans).items.length cap5) hR5)):=ans_stored (.int .i64 (⟨9,0,[]⟩:Ans).code) (.int .i64 (⟨9,0,[]⟩:Ans).why) (.slice ao5 (⟨9,0,[]⟩:Ans).items.length cap5) hR5
  have HP:Hid (type_of% (do_pass (a:=(⟨9,0,[]⟩:Ans)) (Chg.of_below hB1) hrow5 hrep5 hchg5 hv5 hfR (by omega) (show w.heap.size≤w.heap.size+1 by omega))):=do_pass (a:=(⟨9,0,[]⟩:Ans)) (Chg.of_below hB1) hrow5 hrep5 hchg5 hv5 hfR (by omega) (by omega)
  clear hR5 hrow5 hrep5 hchg5 hv5
  unfold ansV
  go_wp2
  exact ret_ans Try.results67 rfl HS.out rfl (by rw [Hf.out]; exact HP.out)
 ·rw [hp] at hpc
  have hPr:=proper_of hp
  have HPr:Hid (Proper x):=hPr
  go_wp2_with fail
  refine hpc.mono ?_
  clear hpc hPr
  rintro e w1 ⟨rfl,hb1⟩
  have hB1:Below w.heap.size w w1:=hA.trans (hb1.mono hA.size)
  have HR1:Hid (w1.heap[w.heap.size+1]?=some (.cells #[.int .i64 0,.int .i64 0,.slice none 0 0] 66 (0,0))):=by unfold Hid; rw [hb1.block _ (by have:=hzA.out; omega)]; exact hR.out
  have hX1:w1.heap[w.heap.size]?=some (.cells (stepC x).toArray 30 (0,0)):=by rw [hb1.block _ (by have:=hzA.out; omega)]; exact hX.out
  have HX1:Hid (w1.heap[w.heap.size]?=some (.cells (stepC x).toArray 30 (0,0))):=hX1
  have hz1:w.heap.size+2≤w1.heap.size:=by have:=hb1.size; have:=hzA.out; omega
  obtain ⟨c0,c1,c2,_,_,_,_,_,_⟩:=step_cells hX1
  clear hb1 hX1 hA hX hR hzA
  go_wp2_with fail
  refine (told_any r st own x.who w1 (hm.below hB1) (by omega)).mono ?_
  rintro e w2 ⟨rfl,own2,hrep2,hchg2⟩
  have hz2:=hchg2.size
  have hX2:w2.heap[w.heap.size]?=some (.cells (stepC x).toArray 30 (0,0)):=by rw [hchg2.block _ (by omega) hfX]; exact HX1.out
  have HR2:Hid (w2.heap[w.heap.size+1]?=some (.cells #[.int .i64 0,.int .i64 0,.slice none 0 0] 66 (0,0))):=by unfold Hid; rw [hchg2.block _ (by omega) hfR]; exact HR1.out
  have hfR2:own2 (w.heap.size+1)=none:=hchg2.none' hfR (by omega)
  have hfX2:own2 w.heap.size=none:=hchg2.none' hfX (by omega)
  have HC2:Hid (Chg own w w2 own2):=(Chg.of_below hB1).trans hchg2
  have HRep2:Hid (Rep w2 r (st.toldT x.who) own2):=hrep2
  have HX2:Hid (w2.heap[w.heap.size]?=some (.cells (stepC x).toArray 30 (0,0))):=hX2
  obtain ⟨wy,hwy⟩:∃ n,Hid (st.toldW x.who=n):=⟨_,rfl⟩
  rw [hwy.out]
  obtain ⟨d0,d1,d2,d3,_,_,_,_,_⟩:=step_cells hX2
  clear hrep2 hchg2 hX2 c0 c1 c2 hm
  by_cases hw:0 < wy
  ·have Hf:Hid (st.doT x=(st.toldT x.who,⟨2,wy,[]⟩)):=by
    unfold Hid RS.doT; rw [if_neg (by rw [hp]; simp),hwy.out,if_pos hw]
   obtain ⟨e0,e1,e2,f0,f1,f2⟩:=ans_cells HR2.out
   have HS:Hid (type_of% (ans_stored (.int .i64 2) (.int .i64 wy) (.slice none 0 0) HR2.out)):=ans_stored (.int .i64 2) (.int .i64 wy) (.slice none 0 0) HR2.out
   have HP:Hid (type_of% (ans_out 2 wy HRep2.out HC2.out hfR2 (show w.heap.size≤w.heap.size+1 by omega)).toDo):=(ans_out 2 wy HRep2.out HC2.out hfR2 (by omega)).toDo
   go_wp2
   exact ret_ans Try.results67 rfl HS.out rfl (by rw [Hf.out]; exact HP.out)
  ·have HD:Hid (st.doT x=(st.toldT x.who).actT x):=by
    unfold Hid RS.doT; rw [if_neg (by rw [hp]; simp),hwy.out,if_neg hw]
   have HFs:Hid ((st.toldT x.who).Fit N):=HF.out.toldT _
   have hcs:(st.toldT x.who).c≤32:=hc
   have dw:decide (0 < wy)=false:=by simpa using hw
   obtain ⟨s,hs⟩:∃ s,Hid (st.toldT x.who=s):=⟨_,rfl⟩
   rw [hs.out] at HRep2 HD HFs hcs
   go_wp2_with fail
   refine (live_any r s own2 x.who.1 x.who.2.1 x.who.2.2 _ HRep2.out).mono ?_
   rintro e w3 ⟨rfl,hb3⟩
   have hz3:=hb3.size
   have g0:=cell_later hb3 d0
   have g1:=cell_later hb3 d1
   have g2:=cell_later hb3 d2
   go_wp2_with fail
   refine (waiting_any r s own2 x.who.1 x.who.2.1 x.who.2.2 _ (HRep2.out.below hb3)).mono ?_
   rintro e w4 ⟨rfl,hb4⟩
   have hB4:Below w2.heap.size w2 w4:=hb3.trans (hb4.mono hb3.size)
   have hz4:=hB4.size
   have HX4:Hid (w4.heap[w.heap.size]?=some (.cells (stepC x).toArray 30 (0,0))):=by unfold Hid; rw [hB4.block _ (by omega)]; exact HX2.out
   have HR4:Hid (w4.heap[w.heap.size+1]?=some (.cells #[.int .i64 0,.int .i64 0,.slice none 0 0] 66 (0,0))):=by unfold Hid; rw [hB4.block _ (by omega)]; exact HR2.out
   have HC4:Hid (Chg own w w4 own2):=HC2.out.trans (Chg.of_below hB4)
   have HRep4:Hid (Rep w4 r s own2):=HRep2.out.below hB4
   obtain ⟨d0,d1,d2,d3,d4,d5,d6,d7,d8⟩:=step_cells HX4.out
   have hzz:w.heap.size+2≤w4.heap.size:=by omega
   clear hb3 hb4 hB4 g0 g1 g2 HRep2 HX2 HR2 HC2 HR1 HX1 hB1
   cases h8:(x.op == 8)
   ·cases h7:(x.op == 7)
    ·cases h6:(x.op == 6)
     ·cases h1:(x.op == 1)
      ·rcases txOf_cases s x.who with ⟨t1,t2,t3⟩ | ⟨m,t,t1,t2,h3,h4⟩
       ·rw [show s.live (x.who.1,x.who.2.1,x.who.2.2)=-1 from t2]
        rcases waiting_cases s x.who with ⟨q1,q2⟩ | ⟨qi,qc,q1,_,q2⟩
        ·rw [show s.waiting (x.who.1,x.who.2.1,x.who.2.2)=-1 from q1]
         have Hf:Hid (st.doT x=(s,⟨5,0,[]⟩)):=by unfold Hid; rw [HD.out]; unfold RS.actT RS.isReady; rw [if_neg (show ¬ x.op=8 by simpa using h8),if_neg (fun h=>h.1.elim (show ¬ x.op=7 by simpa using h7) (show ¬ x.op=6 by simpa using h6)),if_neg (show ¬ x.op=7 by simpa using h7),if_neg (by rw [q2,t1]; simp),if_neg (show ¬ x.op=1 by simpa using h1),if_pos (by rw [t1]; rfl)]
         go_wp2_with fail
         refine (code_do 5 HRep4.out).mono ?_
         rintro e w5 ⟨v,own5,rfl,hrow5,hrep5,hchg5,hv5⟩
         obtain ⟨ao5,cap5,rfl⟩:=ownsRow_slice hrow5
         have hR5:w5.heap[w.heap.size+1]?=some (.cells #[.int .i64 0,.int .i64 0,.slice none 0 0] 66 (0,0)):=by rw [hchg5.block _ (by omega) hfR2]; exact HR4.out
         obtain ⟨e0,e1,e2,f0,f1,f2⟩:=ans_cells hR5
         have HS:Hid (type_of% (ans_stored (.int .i64 (⟨5,0,[]⟩:Ans).code) (.int .i64 (⟨5,0,[]⟩:Ans).why) (.slice ao5 (⟨5,0,[]⟩:Ans).items.length cap5) hR5)):=ans_stored (.int .i64 (⟨5,0,[]⟩:Ans).code) (.int .i64 (⟨5,0,[]⟩:Ans).why) (.slice ao5 (⟨5,0,[]⟩:Ans).items.length cap5) hR5
         have HP:Hid (type_of% (do_pass (a:=(⟨5,0,[]⟩:Ans)) HC4.out hrow5 hrep5 hchg5 hv5 hfR2 (by omega) (show w.heap.size≤w.heap.size+1 by omega))):=do_pass (a:=(⟨5,0,[]⟩:Ans)) HC4.out hrow5 hrep5 hchg5 hv5 hfR2 (by omega) (by omega)
         clear hR5 hrow5 hrep5 hchg5 hv5
         unfold ansV
         go_wp2
         exact ret_ans Try.results67 rfl HS.out rfl (by rw [Hf.out]; exact HP.out)
        ·rw [show s.waiting (x.who.1,x.who.2.1,x.who.2.2)=(qi:Int) from q1]
         have Hf:Hid (st.doT x=(s,⟨7,0,[]⟩)):=by unfold Hid; rw [HD.out]; unfold RS.actT RS.isReady; rw [if_neg (show ¬ x.op=8 by simpa using h8),if_neg (fun h=>h.1.elim (show ¬ x.op=7 by simpa using h7) (show ¬ x.op=6 by simpa using h6)),if_neg (show ¬ x.op=7 by simpa using h7),if_pos (.inl (by rw [q2]; rfl))]
         go_wp2_with fail
         refine (code_do 7 HRep4.out).mono ?_
         rintro e w5 ⟨v,own5,rfl,hrow5,hrep5,hchg5,hv5⟩
         obtain ⟨ao5,cap5,rfl⟩:=ownsRow_slice hrow5
         have hR5:w5.heap[w.heap.size+1]?=some (.cells #[.int .i64 0,.int .i64 0,.slice none 0 0] 66 (0,0)):=by rw [hchg5.block _ (by omega) hfR2]; exact HR4.out
         obtain ⟨e0,e1,e2,f0,f1,f2⟩:=ans_cells hR5
         have HS:Hid (type_of% (ans_stored (.int .i64 (⟨7,0,[]⟩:Ans).code) (.int .i64 (⟨7,0,[]⟩:Ans).why) (.slice ao5 (⟨7,0,[]⟩:Ans).items.length cap5) hR5)):=ans_stored (.int .i64 (⟨7,0,[]⟩:Ans).code) (.int .i64 (⟨7,0,[]⟩:Ans).why) (.slice ao5 (⟨7,0,[]⟩:Ans).items.length cap5) hR5
         have HP:Hid (type_of% (do_pass (a:=(⟨7,0,[]⟩:Ans)) HC4.out hrow5 hrep5 hchg5 hv5 hfR2 (by omega) (show w.heap.size≤w.heap.size+1 by omega))):=do_pass (a:=(⟨7,0,[]⟩:Ans)) HC4.out hrow5 hrep5 hchg5 hv5 hfR2 (by omega) (by omega)
         clear hR5 hrow5 hrep5 hchg5 hv5
         unfold ansV
         go_wp2
         exact ret_ans Try.results67 rfl HS.out rfl (by rw [Hf.out]; exact HP.out)
       ·have hlv:s.live (x.who.1,x.who.2.1,x.who.2.2)=(m:Int):=t2
        rw [hlv]
        have gm:decide ((m:Int) < 0)=false:=by simp
        have gm':decide (0≤(m:Int))=true:=by simp
        rcases waiting_cases s x.who with ⟨q1,q2⟩ | ⟨qi,qc,q1,_,q2⟩
        ·rw [show s.waiting (x.who.1,x.who.2.1,x.who.2.2)=-1 from q1]
         obtain ⟨g,vp,vt,vr,ve,mm⟩:=HRep4.out
         obtain ⟨ao,cap,hvt,_,hel4⟩:=mm.txns.form (len_txnC g)
         obtain ⟨bt,hao,_,hbt,hrt,_⟩:=hel4 m t h3
         subst hao
         subst hvt
         have s4:w4.cell? ⟨r,4,none⟩=some (.slice (some ⟨bt,0,none⟩) s.txns.length cap):=by rw [root_cell mm.root]; rfl
         have s15:w4.cell? ⟨bt,m*19+15,none⟩=some (.bool t.ready):=hrt 15 _ rfl
         have zm:(m:Int) < (s.txns.length:Int):=by have:=(List.getElem?_eq_some_iff.1 h3).1; omega
         clear mm hel4 hrt
         cases hrd:t.ready
         ·rw [hrd] at s15
          have hAk:Asking N s x:=actT_asking HFs.out HPr.out hcs (by simpa using h8) (by simpa using h7) (by simpa using h6) (by simpa using h1) (by rw [q2]; rfl) ⟨t,List.mem_of_getElem? h3,h4⟩
          have hak:=(ask_any r s own2 x w4 HRep4.out hAk hNb).mono (fun _ _ h=>h.toDo)
          unfold stepV at hak
          clear hAk
          have Hf:Hid (st.doT x=s.askT x):=by unfold Hid; rw [HD.out]; unfold RS.actT RS.isReady; rw [if_neg (show ¬ x.op=8 by simpa using h8),if_neg (fun h=>h.1.elim (show ¬ x.op=7 by simpa using h7) (show ¬ x.op=6 by simpa using h6)),if_neg (show ¬ x.op=7 by simpa using h7),if_neg (by rw [q2,t1]; simp [hrd]),if_neg (show ¬ x.op=1 by simpa using h1),if_neg (by rw [t1]; simp),if_neg (show ¬ x.op=6 by simpa using h6)]
          go_wp2_with fail
          refine (hak).mono ?_
          rintro e w5 ⟨v,own5,rfl,hrow5,hrep5,hchg5,hv5⟩
          obtain ⟨ao5,cap5,rfl⟩:=ownsRow_slice hrow5
          have hR5:w5.heap[w.heap.size+1]?=some (.cells #[.int .i64 0,.int .i64 0,.slice none 0 0] 66 (0,0)):=by rw [hchg5.block _ (by omega) hfR2]; exact HR4.out
          obtain ⟨e0,e1,e2,f0,f1,f2⟩:=ans_cells hR5
          have HS:Hid (type_of% (ans_stored (.int .i64 (s.askT x).2.code) (.int .i64 (s.askT x).2.why) (.slice ao5 (s.askT x).2.items.length cap5) hR5)):=ans_stored (.int .i64 (s.askT x).2.code) (.int .i64 (s.askT x).2.why) (.slice ao5 (s.askT x).2.items.length cap5) hR5
          have HP:Hid (type_of% (do_pass (a:=(s.askT x).2) HC4.out hrow5 hrep5 hchg5 hv5 hfR2 (by omega) (show w.heap.size≤w.heap.size+1 by omega))):=do_pass (a:=(s.askT x).2) HC4.out hrow5 hrep5 hchg5 hv5 hfR2 (by omega) (by omega)
          clear hR5 hrow5 hrep5 hchg5 hv5
          unfold ansV
          go_wp2
          exact ret_ans Try.results67 rfl HS.out rfl (by rw [Hf.out]; exact HP.out)
         ·rw [hrd] at s15
          have Hf:Hid (st.doT x=(s,⟨7,0,[]⟩)):=by unfold Hid; rw [HD.out]; unfold RS.actT RS.isReady; rw [if_neg (show ¬ x.op=8 by simpa using h8),if_neg (fun h=>h.1.elim (show ¬ x.op=7 by simpa using h7) (show ¬ x.op=6 by simpa using h6)),if_neg (show ¬ x.op=7 by simpa using h7),if_pos (.inr (by rw [t1]; exact hrd))]
          go_wp2_with fail
          refine (code_do 7 HRep4.out).mono ?_
          rintro e w5 ⟨v,own5,rfl,hrow5,hrep5,hchg5,hv5⟩
          obtain ⟨ao5,cap5,rfl⟩:=ownsRow_slice hrow5
          have hR5:w5.heap[w.heap.size+1]?=some (.cells #[.int .i64 0,.int .i64 0,.slice none 0 0] 66 (0,0)):=by rw [hchg5.block _ (by omega) hfR2]; exact HR4.out
          obtain ⟨e0,e1,e2,f0,f1,f2⟩:=ans_cells hR5
          have HS:Hid (type_of% (ans_stored (.int .i64 (⟨7,0,[]⟩:Ans).code) (.int .i64 (⟨7,0,[]⟩:Ans).why) (.slice ao5 (⟨7,0,[]⟩:Ans).items.length cap5) hR5)):=ans_stored (.int .i64 (⟨7,0,[]⟩:Ans).code) (.int .i64 (⟨7,0,[]⟩:Ans).why) (.slice ao5 (⟨7,0,[]⟩:Ans).items.length cap5) hR5
          have HP:Hid (type_of% (do_pass (a:=(⟨7,0,[]⟩:Ans)) HC4.out hrow5 hrep5 hchg5 hv5 hfR2 (by omega) (show w.heap.size≤w.heap.size+1 by omega))):=do_pass (a:=(⟨7,0,[]⟩:Ans)) HC4.out hrow5 hrep5 hchg5 hv5 hfR2 (by omega) (by omega)
          clear hR5 hrow5 hrep5 hchg5 hv5
          unfold ansV
          go_wp2
          exact ret_ans Try.results67 rfl HS.out rfl (by rw [Hf.out]; exact HP.out)
        ·rw [show s.waiting (x.who.1,x.who.2.1,x.who.2.2)=(qi:Int) from q1]
         have Hf:Hid (st.doT x=(s,⟨7,0,[]⟩)):=by unfold Hid; rw [HD.out]; unfold RS.actT RS.isReady; rw [if_neg (show ¬ x.op=8 by simpa using h8),if_neg (fun h=>h.1.elim (show ¬ x.op=7 by simpa using h7) (show ¬ x.op=6 by simpa using h6)),if_neg (show ¬ x.op=7 by simpa using h7),if_pos (.inl (by rw [q2]; rfl))]
         go_wp2_with fail
         refine (code_do 7 HRep4.out).mono ?_
         rintro e w5 ⟨v,own5,rfl,hrow5,hrep5,hchg5,hv5⟩
         obtain ⟨ao5,cap5,rfl⟩:=ownsRow_slice hrow5
         have hR5:w5.heap[w.heap.size+1]?=some (.cells #[.int .i64 0,.int .i64 0,.slice none 0 0] 66 (0,0)):=by rw [hchg5.block _ (by omega) hfR2]; exact HR4.out
         obtain ⟨e0,e1,e2,f0,f1,f2⟩:=ans_cells hR5
         have HS:Hid (type_of% (ans_stored (.int .i64 (⟨7,0,[]⟩:Ans).code) (.int .i64 (⟨7,0,[]⟩:Ans).why) (.slice ao5 (⟨7,0,[]⟩:Ans).items.length cap5) hR5)):=ans_stored (.int .i64 (⟨7,0,[]⟩:Ans).code) (.int .i64 (⟨7,0,[]⟩:Ans).why) (.slice ao5 (⟨7,0,[]⟩:Ans).items.length cap5) hR5
         have HP:Hid (type_of% (do_pass (a:=(⟨7,0,[]⟩:Ans)) HC4.out hrow5 hrep5 hchg5 hv5 hfR2 (by omega) (show w.heap.size≤w.heap.size+1 by omega))):=do_pass (a:=(⟨7,0,[]⟩:Ans)) HC4.out hrow5 hrep5 hchg5 hv5 hfR2 (by omega) (by omega)
         clear hR5 hrow5 hrep5 hchg5 hv5
         unfold ansV
         go_wp2
         exact ret_ans Try.results67 rfl HS.out rfl (by rw [Hf.out]; exact HP.out)
      ·rcases txOf_cases s x.who with ⟨t1,t2,t3⟩ | ⟨m,t,t1,t2,h3,h4⟩
       ·rw [show s.live (x.who.1,x.who.2.1,x.who.2.2)=-1 from t2]
        rcases waiting_cases s x.who with ⟨q1,q2⟩ | ⟨qi,qc,q1,_,q2⟩
        ·rw [show s.waiting (x.who.1,x.who.2.1,x.who.2.2)=-1 from q1]
         have hbg:=begin_do r s own2 x.who w4 HRep4.out HFs.out hNb
         rw [t2] at hbg
         have Hf:Hid (st.doT x=s.startT x.who):=by unfold Hid; rw [HD.out]; unfold RS.actT RS.isReady; rw [if_neg (show ¬ x.op=8 by simpa using h8),if_neg (fun h=>h.1.elim (show ¬ x.op=7 by simpa using h7) (show ¬ x.op=6 by simpa using h6)),if_neg (show ¬ x.op=7 by simpa using h7),if_neg (by rw [q2,t1]; simp),if_pos (show x.op=1 by simpa using h1)]
         go_wp2_with fail
         refine (hbg).mono ?_
         rintro e w5 ⟨v,own5,rfl,hrow5,hrep5,hchg5,hv5⟩
         obtain ⟨ao5,cap5,rfl⟩:=ownsRow_slice hrow5
         have hR5:w5.heap[w.heap.size+1]?=some (.cells #[.int .i64 0,.int .i64 0,.slice none 0 0] 66 (0,0)):=by rw [hchg5.block _ (by omega) hfR2]; exact HR4.out
         obtain ⟨e0,e1,e2,f0,f1,f2⟩:=ans_cells hR5
         have HS:Hid (type_of% (ans_stored (.int .i64 (s.startT x.who).2.code) (.int .i64 (s.startT x.who).2.why) (.slice ao5 (s.startT x.who).2.items.length cap5) hR5)):=ans_stored (.int .i64 (s.startT x.who).2.code) (.int .i64 (s.startT x.who).2.why) (.slice ao5 (s.startT x.who).2.items.length cap5) hR5
         have HP:Hid (type_of% (do_pass (a:=(s.startT x.who).2) HC4.out hrow5 hrep5 hchg5 hv5 hfR2 (by omega) (show w.heap.size≤w.heap.size+1 by omega))):=do_pass (a:=(s.startT x.who).2) HC4.out hrow5 hrep5 hchg5 hv5 hfR2 (by omega) (by omega)
         clear hR5 hrow5 hrep5 hchg5 hv5
         unfold ansV
         go_wp2
         exact ret_ans Try.results67 rfl HS.out rfl (by rw [Hf.out]; exact HP.out)
        ·rw [show s.waiting (x.who.1,x.who.2.1,x.who.2.2)=(qi:Int) from q1]
         have Hf:Hid (st.doT x=(s,⟨7,0,[]⟩)):=by unfold Hid; rw [HD.out]; unfold RS.actT RS.isReady; rw [if_neg (show ¬ x.op=8 by simpa using h8),if_neg (fun h=>h.1.elim (show ¬ x.op=7 by simpa using h7) (show ¬ x.op=6 by simpa using h6)),if_neg (show ¬ x.op=7 by simpa using h7),if_pos (.inl (by rw [q2]; rfl))]
         go_wp2_with fail
         refine (code_do 7 HRep4.out).mono ?_
         rintro e w5 ⟨v,own5,rfl,hrow5,hrep5,hchg5,hv5⟩
         obtain ⟨ao5,cap5,rfl⟩:=ownsRow_slice hrow5
         have hR5:w5.heap[w.heap.size+1]?=some (.cells #[.int .i64 0,.int .i64 0,.slice none 0 0] 66 (0,0)):=by rw [hchg5.block _ (by omega) hfR2]; exact HR4.out
         obtain ⟨e0,e1,e2,f0,f1,f2⟩:=ans_cells hR5
         have HS:Hid (type_of% (ans_stored (.int .i64 (⟨7,0,[]⟩:Ans).code) (.int .i64 (⟨7,0,[]⟩:Ans).why) (.slice ao5 (⟨7,0,[]⟩:Ans).items.length cap5) hR5)):=ans_stored (.int .i64 (⟨7,0,[]⟩:Ans).code) (.int .i64 (⟨7,0,[]⟩:Ans).why) (.slice ao5 (⟨7,0,[]⟩:Ans).items.length cap5) hR5
         have HP:Hid (type_of% (do_pass (a:=(⟨7,0,[]⟩:Ans)) HC4.out hrow5 hrep5 hchg5 hv5 hfR2 (by omega) (show w.heap.size≤w.heap.size+1 by omega))):=do_pass (a:=(⟨7,0,[]⟩:Ans)) HC4.out hrow5 hrep5 hchg5 hv5 hfR2 (by omega) (by omega)
         clear hR5 hrow5 hrep5 hchg5 hv5
         unfold ansV
         go_wp2
         exact ret_ans Try.results67 rfl HS.out rfl (by rw [Hf.out]; exact HP.out)
       ·have hlv:s.live (x.who.1,x.who.2.1,x.who.2.2)=(m:Int):=t2
        rw [hlv]
        have gm:decide ((m:Int) < 0)=false:=by simp
        have gm':decide (0≤(m:Int))=true:=by simp
        rcases waiting_cases s x.who with ⟨q1,q2⟩ | ⟨qi,qc,q1,_,q2⟩
        ·rw [show s.waiting (x.who.1,x.who.2.1,x.who.2.2)=-1 from q1]
         obtain ⟨g,vp,vt,vr,ve,mm⟩:=HRep4.out
         obtain ⟨ao,cap,hvt,_,hel4⟩:=mm.txns.form (len_txnC g)
         obtain ⟨bt,hao,_,hbt,hrt,_⟩:=hel4 m t h3
         subst hao
         subst hvt
         have s4:w4.cell? ⟨r,4,none⟩=some (.slice (some ⟨bt,0,none⟩) s.txns.length cap):=by rw [root_cell mm.root]; rfl
         have s15:w4.cell? ⟨bt,m*19+15,none⟩=some (.bool t.ready):=hrt 15 _ rfl
         have zm:(m:Int) < (s.txns.length:Int):=by have:=(List.getElem?_eq_some_iff.1 h3).1; omega
         clear mm hel4 hrt
         cases hrd:t.ready
         ·rw [hrd] at s15
          have hbg:=begin_do r s own2 x.who w4 HRep4.out HFs.out hNb
          rw [t2] at hbg
          have Hf:Hid (st.doT x=s.startT x.who):=by unfold Hid; rw [HD.out]; unfold RS.actT RS.isReady; rw [if_neg (show ¬ x.op=8 by simpa using h8),if_neg (fun h=>h.1.elim (show ¬ x.op=7 by simpa using h7) (show ¬ x.op=6 by simpa using h6)),if_neg (show ¬ x.op=7 by simpa using h7),if_neg (by rw [q2,t1]; simp [hrd]),if_pos (show x.op=1 by simpa using h1)]
          go_wp2_with fail
          refine (hbg).mono ?_
          rintro e w5 ⟨v,own5,rfl,hrow5,hrep5,hchg5,hv5⟩
          obtain ⟨ao5,cap5,rfl⟩:=ownsRow_slice hrow5
          have hR5:w5.heap[w.heap.size+1]?=some (.cells #[.int .i64 0,.int .i64 0,.slice none 0 0] 66 (0,0)):=by rw [hchg5.block _ (by omega) hfR2]; exact HR4.out
          obtain ⟨e0,e1,e2,f0,f1,f2⟩:=ans_cells hR5
          have HS:Hid (type_of% (ans_stored (.int .i64 (s.startT x.who).2.code) (.int .i64 (s.startT x.who).2.why) (.slice ao5 (s.startT x.who).2.items.length cap5) hR5)):=ans_stored (.int .i64 (s.startT x.who).2.code) (.int .i64 (s.startT x.who).2.why) (.slice ao5 (s.startT x.who).2.items.length cap5) hR5
          have HP:Hid (type_of% (do_pass (a:=(s.startT x.who).2) HC4.out hrow5 hrep5 hchg5 hv5 hfR2 (by omega) (show w.heap.size≤w.heap.size+1 by omega))):=do_pass (a:=(s.startT x.who).2) HC4.out hrow5 hrep5 hchg5 hv5 hfR2 (by omega) (by omega)
          clear hR5 hrow5 hrep5 hchg5 hv5
          unfold ansV
          go_wp2
          exact ret_ans Try.results67 rfl HS.out rfl (by rw [Hf.out]; exact HP.out)
         ·rw [hrd] at s15
          have Hf:Hid (st.doT x=(s,⟨7,0,[]⟩)):=by unfold Hid; rw [HD.out]; unfold RS.actT RS.isReady; rw [if_neg (show ¬ x.op=8 by simpa using h8),if_neg (fun h=>h.1.elim (show ¬ x.op=7 by simpa using h7) (show ¬ x.op=6 by simpa using h6)),if_neg (show ¬ x.op=7 by simpa using h7),if_pos (.inr (by rw [t1]; exact hrd))]
          go_wp2_with fail
          refine (code_do 7 HRep4.out).mono ?_
          rintro e w5 ⟨v,own5,rfl,hrow5,hrep5,hchg5,hv5⟩
          obtain ⟨ao5,cap5,rfl⟩:=ownsRow_slice hrow5
          have hR5:w5.heap[w.heap.size+1]?=some (.cells #[.int .i64 0,.int .i64 0,.slice none 0 0] 66 (0,0)):=by rw [hchg5.block _ (by omega) hfR2]; exact HR4.out
          obtain ⟨e0,e1,e2,f0,f1,f2⟩:=ans_cells hR5
          have HS:Hid (type_of% (ans_stored (.int .i64 (⟨7,0,[]⟩:Ans).code) (.int .i64 (⟨7,0,[]⟩:Ans).why) (.slice ao5 (⟨7,0,[]⟩:Ans).items.length cap5) hR5)):=ans_stored (.int .i64 (⟨7,0,[]⟩:Ans).code) (.int .i64 (⟨7,0,[]⟩:Ans).why) (.slice ao5 (⟨7,0,[]⟩:Ans).items.length cap5) hR5
          have HP:Hid (type_of% (do_pass (a:=(⟨7,0,[]⟩:Ans)) HC4.out hrow5 hrep5 hchg5 hv5 hfR2 (by omega) (show w.heap.size≤w.heap.size+1 by omega))):=do_pass (a:=(⟨7,0,[]⟩:Ans)) HC4.out hrow5 hrep5 hchg5 hv5 hfR2 (by omega) (by omega)
          clear hR5 hrow5 hrep5 hchg5 hv5
          unfold ansV
          go_wp2
          exact ret_ans Try.results67 rfl HS.out rfl (by rw [Hf.out]; exact HP.out)
        ·rw [show s.waiting (x.who.1,x.who.2.1,x.who.2.2)=(qi:Int) from q1]
         have Hf:Hid (st.doT x=(s,⟨7,0,[]⟩)):=by unfold Hid; rw [HD.out]; unfold RS.actT RS.isReady; rw [if_neg (show ¬ x.op=8 by simpa using h8),if_neg (fun h=>h.1.elim (show ¬ x.op=7 by simpa using h7) (show ¬ x.op=6 by simpa using h6)),if_neg (show ¬ x.op=7 by simpa using h7),if_pos (.inl (by rw [q2]; rfl))]
         go_wp2_with fail
         refine (code_do 7 HRep4.out).mono ?_
         rintro e w5 ⟨v,own5,rfl,hrow5,hrep5,hchg5,hv5⟩
         obtain ⟨ao5,cap5,rfl⟩:=ownsRow_slice hrow5
         have hR5:w5.heap[w.heap.size+1]?=some (.cells #[.int .i64 0,.int .i64 0,.slice none 0 0] 66 (0,0)):=by rw [hchg5.block _ (by omega) hfR2]; exact HR4.out
         obtain ⟨e0,e1,e2,f0,f1,f2⟩:=ans_cells hR5
         have HS:Hid (type_of% (ans_stored (.int .i64 (⟨7,0,[]⟩:Ans).code) (.int .i64 (⟨7,0,[]⟩:Ans).why) (.slice ao5 (⟨7,0,[]⟩:Ans).items.length cap5) hR5)):=ans_stored (.int .i64 (⟨7,0,[]⟩:Ans).code) (.int .i64 (⟨7,0,[]⟩:Ans).why) (.slice ao5 (⟨7,0,[]⟩:Ans).items.length cap5) hR5
         have HP:Hid (type_of% (do_pass (a:=(⟨7,0,[]⟩:Ans)) HC4.out hrow5 hrep5 hchg5 hv5 hfR2 (by omega) (show w.heap.size≤w.heap.size+1 by omega))):=do_pass (a:=(⟨7,0,[]⟩:Ans)) HC4.out hrow5 hrep5 hchg5 hv5 hfR2 (by omega) (by omega)
         clear hR5 hrow5 hrep5 hchg5 hv5
         unfold ansV
         go_wp2
         exact ret_ans Try.results67 rfl HS.out rfl (by rw [Hf.out]; exact HP.out)
     ·rcases txOf_cases s x.who with ⟨t1,t2,t3⟩ | ⟨m,t,t1,t2,h3,h4⟩
      ·rw [show s.live (x.who.1,x.who.2.1,x.who.2.2)=-1 from t2]
       have Hf:Hid (st.doT x=(s,⟨5,0,[]⟩)):=by unfold Hid; rw [HD.out]; unfold RS.actT RS.isReady; rw [if_neg (show ¬ x.op=8 by simpa using h8),if_pos ⟨.inr (show x.op=6 by simpa using h6),by rw [t1]; rfl⟩]
       go_wp2_with fail
       refine (code_do 5 HRep4.out).mono ?_
       rintro e w5 ⟨v,own5,rfl,hrow5,hrep5,hchg5,hv5⟩
       obtain ⟨ao5,cap5,rfl⟩:=ownsRow_slice hrow5
       have hR5:w5.heap[w.heap.size+1]?=some (.cells #[.int .i64 0,.int .i64 0,.slice none 0 0] 66 (0,0)):=by rw [hchg5.block _ (by omega) hfR2]; exact HR4.out
       obtain ⟨e0,e1,e2,f0,f1,f2⟩:=ans_cells hR5
       have HS:Hid (type_of% (ans_stored (.int .i64 (⟨5,0,[]⟩:Ans).code) (.int .i64 (⟨5,0,[]⟩:Ans).why) (.slice ao5 (⟨5,0,[]⟩:Ans).items.length cap5) hR5)):=ans_stored (.int .i64 (⟨5,0,[]⟩:Ans).code) (.int .i64 (⟨5,0,[]⟩:Ans).why) (.slice ao5 (⟨5,0,[]⟩:Ans).items.length cap5) hR5
       have HP:Hid (type_of% (do_pass (a:=(⟨5,0,[]⟩:Ans)) HC4.out hrow5 hrep5 hchg5 hv5 hfR2 (by omega) (show w.heap.size≤w.heap.size+1 by omega))):=do_pass (a:=(⟨5,0,[]⟩:Ans)) HC4.out hrow5 hrep5 hchg5 hv5 hfR2 (by omega) (by omega)
       clear hR5 hrow5 hrep5 hchg5 hv5
       unfold ansV
       go_wp2
       exact ret_ans Try.results67 rfl HS.out rfl (by rw [Hf.out]; exact HP.out)
      ·have hlv:s.live (x.who.1,x.who.2.1,x.who.2.2)=(m:Int):=t2
       rw [hlv]
       have gm:decide ((m:Int) < 0)=false:=by simp
       have gm':decide (0≤(m:Int))=true:=by simp
       rcases waiting_cases s x.who with ⟨q1,q2⟩ | ⟨qi,qc,q1,_,q2⟩
       ·rw [show s.waiting (x.who.1,x.who.2.1,x.who.2.2)=-1 from q1]
        obtain ⟨g,vp,vt,vr,ve,mm⟩:=HRep4.out
        obtain ⟨ao,cap,hvt,_,hel4⟩:=mm.txns.form (len_txnC g)
        obtain ⟨bt,hao,_,hbt,hrt,_⟩:=hel4 m t h3
        subst hao
        subst hvt
        have s4:w4.cell? ⟨r,4,none⟩=some (.slice (some ⟨bt,0,none⟩) s.txns.length cap):=by rw [root_cell mm.root]; rfl
        have s15:w4.cell? ⟨bt,m*19+15,none⟩=some (.bool t.ready):=hrt 15 _ rfl
        have zm:(m:Int) < (s.txns.length:Int):=by have:=(List.getElem?_eq_some_iff.1 h3).1; omega
        clear mm hel4 hrt
        cases hrd:t.ready
        ·rw [hrd] at s15
         have h1:(x.op == 1)=false:=by rw [show x.op=6 by simpa using h6]; rfl
         have Hf:Hid (st.doT x=((s.ends x.who false 0).againT,⟨0,0,[]⟩)):=by unfold Hid; rw [HD.out]; unfold RS.actT RS.isReady; rw [if_neg (show ¬ x.op=8 by simpa using h8),if_neg (fun h=>by rw [t1] at h; simp at h),if_neg (show ¬ x.op=7 by simpa using h7),if_neg (by rw [q2,t1]; simp [hrd]),if_neg (show ¬ x.op=1 by simpa using h1),if_neg (by rw [t1]; simp),if_pos (show x.op=6 by simpa using h6)]
         have hex:∃ u∈s.txns,u.who=x.who:=⟨t,List.mem_of_getElem? h3,h4⟩
         go_wp2_with fail
         refine (end_any r s own2 x.who false 0 _ HRep4.out HFs.out hex).mono ?_
         rintro e w6 ⟨rfl,own6,hrep6,hchg6⟩
         have hz6:=hchg6.size
         go_wp2_with fail
         refine (again_any r _ own6 _ hrep6 (HFs.out.ends x.who false 0) (by omega)).mono ?_
         rintro e w7 ⟨rfl,own7,hrep7,hchg7⟩
         have hz7:=hchg7.size
         have hfR6:own6 (w.heap.size+1)=none:=hchg6.none' hfR2 (by omega)
         have hfR7:own7 (w.heap.size+1)=none:=hchg7.none' hfR6 (by omega)
         have HR7:Hid (w7.heap[w.heap.size+1]?=some (.cells #[.int .i64 0,.int .i64 0,.slice none 0 0] 66 (0,0))):=by unfold Hid; rw [hchg7.block _ (by omega) hfR6,hchg6.block _ (by omega) hfR2]; exact HR4.out
         have HC7:Hid (Chg own w w7 own7):=(HC4.out.trans hchg6).trans hchg7
         have HRp7:Hid (type_of% hrep7):=hrep7
         clear hrep6 hchg6 hrep7 hchg7
         go_wp2_with fail
         refine (code_do 0 HRp7.out).mono ?_
         rintro e w5 ⟨v,own5,rfl,hrow5,hrep5,hchg5,hv5⟩
         obtain ⟨ao5,cap5,rfl⟩:=ownsRow_slice hrow5
         have hR5:w5.heap[w.heap.size+1]?=some (.cells #[.int .i64 0,.int .i64 0,.slice none 0 0] 66 (0,0)):=by rw [hchg5.block _ (by omega) hfR7]; exact HR7.out
         obtain ⟨e0,e1,e2,f0,f1,f2⟩:=ans_cells hR5
         have HS:Hid (type_of% (ans_stored (.int .i64 (⟨0,0,[]⟩:Ans).code) (.int .i64 (⟨0,0,[]⟩:Ans).why) (.slice ao5 (⟨0,0,[]⟩:Ans).items.length cap5) hR5)):=ans_stored (.int .i64 (⟨0,0,[]⟩:Ans).code) (.int .i64 (⟨0,0,[]⟩:Ans).why) (.slice ao5 (⟨0,0,[]⟩:Ans).items.length cap5) hR5
         have HP:Hid (type_of% (do_pass (a:=(⟨0,0,[]⟩:Ans)) HC7.out hrow5 hrep5 hchg5 hv5 hfR7 (by omega) (show w.heap.size≤w.heap.size+1 by omega))):=do_pass (a:=(⟨0,0,[]⟩:Ans)) HC7.out hrow5 hrep5 hchg5 hv5 hfR7 (by omega) (by omega)
         clear hR5 hrow5 hrep5 hchg5 hv5
         unfold ansV
         go_wp2
         exact ret_ans Try.results67 rfl HS.out rfl (by rw [Hf.out]; exact HP.out)
        ·rw [hrd] at s15
         have Hf:Hid (st.doT x=(s,⟨7,0,[]⟩)):=by unfold Hid; rw [HD.out]; unfold RS.actT RS.isReady; rw [if_neg (show ¬ x.op=8 by simpa using h8),if_neg (fun h=>by rw [t1] at h; simp at h),if_neg (show ¬ x.op=7 by simpa using h7),if_pos (.inr (by rw [t1]; exact hrd))]
         go_wp2_with fail
         refine (code_do 7 HRep4.out).mono ?_
         rintro e w5 ⟨v,own5,rfl,hrow5,hrep5,hchg5,hv5⟩
         obtain ⟨ao5,cap5,rfl⟩:=ownsRow_slice hrow5
         have hR5:w5.heap[w.heap.size+1]?=some (.cells #[.int .i64 0,.int .i64 0,.slice none 0 0] 66 (0,0)):=by rw [hchg5.block _ (by omega) hfR2]; exact HR4.out
         obtain ⟨e0,e1,e2,f0,f1,f2⟩:=ans_cells hR5
         have HS:Hid (type_of% (ans_stored (.int .i64 (⟨7,0,[]⟩:Ans).code) (.int .i64 (⟨7,0,[]⟩:Ans).why) (.slice ao5 (⟨7,0,[]⟩:Ans).items.length cap5) hR5)):=ans_stored (.int .i64 (⟨7,0,[]⟩:Ans).code) (.int .i64 (⟨7,0,[]⟩:Ans).why) (.slice ao5 (⟨7,0,[]⟩:Ans).items.length cap5) hR5
         have HP:Hid (type_of% (do_pass (a:=(⟨7,0,[]⟩:Ans)) HC4.out hrow5 hrep5 hchg5 hv5 hfR2 (by omega) (show w.heap.size≤w.heap.size+1 by omega))):=do_pass (a:=(⟨7,0,[]⟩:Ans)) HC4.out hrow5 hrep5 hchg5 hv5 hfR2 (by omega) (by omega)
         clear hR5 hrow5 hrep5 hchg5 hv5
         unfold ansV
         go_wp2
         exact ret_ans Try.results67 rfl HS.out rfl (by rw [Hf.out]; exact HP.out)
       ·rw [show s.waiting (x.who.1,x.who.2.1,x.who.2.2)=(qi:Int) from q1]
        have Hf:Hid (st.doT x=(s,⟨7,0,[]⟩)):=by unfold Hid; rw [HD.out]; unfold RS.actT RS.isReady; rw [if_neg (show ¬ x.op=8 by simpa using h8),if_neg (fun h=>by rw [t1] at h; simp at h),if_neg (show ¬ x.op=7 by simpa using h7),if_pos (.inl (by rw [q2]; rfl))]
        go_wp2_with fail
        refine (code_do 7 HRep4.out).mono ?_
        rintro e w5 ⟨v,own5,rfl,hrow5,hrep5,hchg5,hv5⟩
        obtain ⟨ao5,cap5,rfl⟩:=ownsRow_slice hrow5
        have hR5:w5.heap[w.heap.size+1]?=some (.cells #[.int .i64 0,.int .i64 0,.slice none 0 0] 66 (0,0)):=by rw [hchg5.block _ (by omega) hfR2]; exact HR4.out
        obtain ⟨e0,e1,e2,f0,f1,f2⟩:=ans_cells hR5
        have HS:Hid (type_of% (ans_stored (.int .i64 (⟨7,0,[]⟩:Ans).code) (.int .i64 (⟨7,0,[]⟩:Ans).why) (.slice ao5 (⟨7,0,[]⟩:Ans).items.length cap5) hR5)):=ans_stored (.int .i64 (⟨7,0,[]⟩:Ans).code) (.int .i64 (⟨7,0,[]⟩:Ans).why) (.slice ao5 (⟨7,0,[]⟩:Ans).items.length cap5) hR5
        have HP:Hid (type_of% (do_pass (a:=(⟨7,0,[]⟩:Ans)) HC4.out hrow5 hrep5 hchg5 hv5 hfR2 (by omega) (show w.heap.size≤w.heap.size+1 by omega))):=do_pass (a:=(⟨7,0,[]⟩:Ans)) HC4.out hrow5 hrep5 hchg5 hv5 hfR2 (by omega) (by omega)
        clear hR5 hrow5 hrep5 hchg5 hv5
        unfold ansV
        go_wp2
        exact ret_ans Try.results67 rfl HS.out rfl (by rw [Hf.out]; exact HP.out)
    ·rcases txOf_cases s x.who with ⟨t1,t2,t3⟩ | ⟨m,t,t1,t2,h3,h4⟩
     ·rw [show s.live (x.who.1,x.who.2.1,x.who.2.2)=-1 from t2]
      have Hf:Hid (st.doT x=(s,⟨5,0,[]⟩)):=by unfold Hid; rw [HD.out]; unfold RS.actT RS.isReady; rw [if_neg (show ¬ x.op=8 by simpa using h8),if_pos ⟨.inl (show x.op=7 by simpa using h7),by rw [t1]; rfl⟩]
      go_wp2_with fail
      refine (code_do 5 HRep4.out).mono ?_
      rintro e w5 ⟨v,own5,rfl,hrow5,hrep5,hchg5,hv5⟩
      obtain ⟨ao5,cap5,rfl⟩:=ownsRow_slice hrow5
      have hR5:w5.heap[w.heap.size+1]?=some (.cells #[.int .i64 0,.int .i64 0,.slice none 0 0] 66 (0,0)):=by rw [hchg5.block _ (by omega) hfR2]; exact HR4.out
      obtain ⟨e0,e1,e2,f0,f1,f2⟩:=ans_cells hR5
      have HS:Hid (type_of% (ans_stored (.int .i64 (⟨5,0,[]⟩:Ans).code) (.int .i64 (⟨5,0,[]⟩:Ans).why) (.slice ao5 (⟨5,0,[]⟩:Ans).items.length cap5) hR5)):=ans_stored (.int .i64 (⟨5,0,[]⟩:Ans).code) (.int .i64 (⟨5,0,[]⟩:Ans).why) (.slice ao5 (⟨5,0,[]⟩:Ans).items.length cap5) hR5
      have HP:Hid (type_of% (do_pass (a:=(⟨5,0,[]⟩:Ans)) HC4.out hrow5 hrep5 hchg5 hv5 hfR2 (by omega) (show w.heap.size≤w.heap.size+1 by omega))):=do_pass (a:=(⟨5,0,[]⟩:Ans)) HC4.out hrow5 hrep5 hchg5 hv5 hfR2 (by omega) (by omega)
      clear hR5 hrow5 hrep5 hchg5 hv5
      unfold ansV
      go_wp2
      exact ret_ans Try.results67 rfl HS.out rfl (by rw [Hf.out]; exact HP.out)
     ·have hlv:s.live (x.who.1,x.who.2.1,x.who.2.2)=(m:Int):=t2
      rw [hlv]
      have gm:decide ((m:Int) < 0)=false:=by simp
      have gm':decide (0≤(m:Int))=true:=by simp
      have h6:(x.op == 6)=false:=by rw [show x.op=7 by simpa using h7]; rfl
      have Hf:Hid (st.doT x=((s.ends x.who true 0).againT,⟨0,0,[]⟩)):=by unfold Hid; rw [HD.out]; unfold RS.actT RS.isReady; rw [if_neg (show ¬ x.op=8 by simpa using h8),if_neg (fun h=>by rw [t1] at h; simp at h),if_pos (show x.op=7 by simpa using h7)]
      have hex:∃ u∈s.txns,u.who=x.who:=⟨t,List.mem_of_getElem? h3,h4⟩
      go_wp2_with fail
      refine (end_any r s own2 x.who true 0 _ HRep4.out HFs.out hex).mono ?_
      rintro e w6 ⟨rfl,own6,hrep6,hchg6⟩
      have hz6:=hchg6.size
      go_wp2_with fail
      refine (again_any r _ own6 _ hrep6 (HFs.out.ends x.who true 0) (by omega)).mono ?_
      rintro e w7 ⟨rfl,own7,hrep7,hchg7⟩
      have hz7:=hchg7.size
      have hfR6:own6 (w.heap.size+1)=none:=hchg6.none' hfR2 (by omega)
      have hfR7:own7 (w.heap.size+1)=none:=hchg7.none' hfR6 (by omega)
      have HR7:Hid (w7.heap[w.heap.size+1]?=some (.cells #[.int .i64 0,.int .i64 0,.slice none 0 0] 66 (0,0))):=by unfold Hid; rw [hchg7.block _ (by omega) hfR6,hchg6.block _ (by omega) hfR2]; exact HR4.out
      have HC7:Hid (Chg own w w7 own7):=(HC4.out.trans hchg6).trans hchg7
      have HRp7:Hid (type_of% hrep7):=hrep7
      clear hrep6 hchg6 hrep7 hchg7
      go_wp2_with fail
      refine (code_do 0 HRp7.out).mono ?_
      rintro e w5 ⟨v,own5,rfl,hrow5,hrep5,hchg5,hv5⟩
      obtain ⟨ao5,cap5,rfl⟩:=ownsRow_slice hrow5
      have hR5:w5.heap[w.heap.size+1]?=some (.cells #[.int .i64 0,.int .i64 0,.slice none 0 0] 66 (0,0)):=by rw [hchg5.block _ (by omega) hfR7]; exact HR7.out
      obtain ⟨e0,e1,e2,f0,f1,f2⟩:=ans_cells hR5
      have HS:Hid (type_of% (ans_stored (.int .i64 (⟨0,0,[]⟩:Ans).code) (.int .i64 (⟨0,0,[]⟩:Ans).why) (.slice ao5 (⟨0,0,[]⟩:Ans).items.length cap5) hR5)):=ans_stored (.int .i64 (⟨0,0,[]⟩:Ans).code) (.int .i64 (⟨0,0,[]⟩:Ans).why) (.slice ao5 (⟨0,0,[]⟩:Ans).items.length cap5) hR5
      have HP:Hid (type_of% (do_pass (a:=(⟨0,0,[]⟩:Ans)) HC7.out hrow5 hrep5 hchg5 hv5 hfR7 (by omega) (show w.heap.size≤w.heap.size+1 by omega))):=do_pass (a:=(⟨0,0,[]⟩:Ans)) HC7.out hrow5 hrep5 hchg5 hv5 hfR7 (by omega) (by omega)
      clear hR5 hrow5 hrep5 hchg5 hv5
      unfold ansV
      go_wp2
      exact ret_ans Try.results67 rfl HS.out rfl (by rw [Hf.out]; exact HP.out)
   ·have Hf:Hid (st.doT x=s.pollT x.who):=by unfold Hid; rw [HD.out]; unfold RS.actT RS.isReady; rw [if_pos (show x.op=8 by simpa using h8)]
    go_wp2_with fail
    refine (poll_do r s own2 x.who w4 HRep4.out HFs.out).mono ?_
    rintro e w5 ⟨v,own5,rfl,hrow5,hrep5,hchg5,hv5⟩
    obtain ⟨ao5,cap5,rfl⟩:=ownsRow_slice hrow5
    have hR5:w5.heap[w.heap.size+1]?=some (.cells #[.int .i64 0,.int .i64 0,.slice none 0 0] 66 (0,0)):=by rw [hchg5.block _ (by omega) hfR2]; exact HR4.out
    obtain ⟨e0,e1,e2,f0,f1,f2⟩:=ans_cells hR5
    have HS:Hid (type_of% (ans_stored (.int .i64 (s.pollT x.who).2.code) (.int .i64 (s.pollT x.who).2.why) (.slice ao5 (s.pollT x.who).2.items.length cap5) hR5)):=ans_stored (.int .i64 (s.pollT x.who).2.code) (.int .i64 (s.pollT x.who).2.why) (.slice ao5 (s.pollT x.who).2.items.length cap5) hR5
    have HP:Hid (type_of% (do_pass (a:=(s.pollT x.who).2) HC4.out hrow5 hrep5 hchg5 hv5 hfR2 (by omega) (show w.heap.size≤w.heap.size+1 by omega))):=do_pass (a:=(s.pollT x.who).2) HC4.out hrow5 hrep5 hchg5 hv5 hfR2 (by omega) (by omega)
    clear hR5 hrow5 hrep5 hchg5 hv5
    unfold ansV
    go_wp2
    exact ret_ans Try.results67 rfl HS.out rfl (by rw [Hf.out]; exact HP.out)
end Go.Proofs.Ytpbcplfpjcacfaa
