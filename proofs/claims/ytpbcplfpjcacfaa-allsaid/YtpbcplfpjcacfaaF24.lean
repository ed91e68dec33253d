import Derived.Test.YtpbcplfpjcacfaaF23
namespace Go.Proofs.Ytpbcplfpjcacfaa
open Go.RowKit
set_option maxRecDepth 100000
set_option maxHeartbeats 8000000
theorem ringsN_no {q n:Nat} {s:PS} (h:(s.t q).youngest n=none):∀ k,PS.ringsN q n k s=s
 | 0=>rfl
 | k+1=>by rw [PS.ringsN,h]
theorem ringsN_yes {q n y:Nat} {s:PS} (h:(s.t q).youngest n=some y) (k:Nat):PS.ringsN q n (k+1) s=PS.ringsN q n k (s.setT q ((s.t q).forceT y 2)).settleT:=by
 rw [PS.ringsN,h]
theorem youngest_lt {q n y:Nat} {s:PS} (F:s.Fit) (hq:q < 32) (h:(s.t q).youngest n=some y):y < 4 :=
 (F.tr q hq).begL y (by have:=List.mem_of_find?_eq_some h; simpa using this)
theorem rings_is {w:World} {p q n:Nat} {a:Wh} {s:PS} {own:Own} {G:PG} (m:PMem w p s own G) (hq:q < 32) (hn:n < 4) (ha:a=whoOf q n) (F:s.Fit) :
  Calls Try.prog 81 #[.pointer (some ⟨p,0,none⟩),.agg #[.int .i64 a.1,.int .i64 a.2.1,.int .i64 a.2.2]] w (AQ own w p (s.ringsT q n).1 (s.ringsT q n).2):=by
 have M:Hid (PMem w p s own G):=m
 have HF:Hid s.Fit:=F
 have hp:=m.lt
 have zn:(n:Int) < 4:=by omega
 clear m F
 obtain ⟨a0,a1,a2⟩:=a
 simp only [whoOf,Prod.mk.injEq] at ha
 obtain ⟨h0,h1,h2⟩:=ha
 subst h2
 have Ha:Hid ((a0,a1)=labOf q):=by show _=_; rw [h0,h1]
 have hlab:labB a0 a1=true:=by rw [h0,h1]; exact labOf_ok hq
 have hpl:plOf (a0,a1)=q:=by rw [Ha.out]; exact plOf_labOf hq
 clear h0 h1
 go_enter Try.func81,Try.ntmps81
 go_upto_region 1 with fail
 obtain ⟨B1,L0,L1⟩:=entryW (w:=w) (a:=(a0,a1,(n:Int)))
 unfold whoObj ansObj at *
 simp only at *
 generalize (w.alloc _).alloc _=W0 at *
 have hs1:w.heap.size+1 < W0.heap.size:=(Array.getElem?_eq_some_iff.1 L1.out).1
 obtain ⟨r0,r1,r2⟩:=who_cells L0.out
 go_wp2_with fail
 refine (tier_is (a:=(a0,a1)) hlab hpl).mono ?_
 rintro e W1 ⟨rfl,hb2⟩
 have B2:Hid (Below w.heap.size w W1):=B1.out.trans (hb2.mono B1.out.size)
 have L02:Hid (W1.heap[w.heap.size]?=_):=(hb2.block _ (by omega)).trans L0.out
 have L12:Hid (ansBlk W1 (w.heap.size+1) 0 0 (.slice none 0 0)):=(hb2.block _ (by omega)).trans L1.out
 have hs2:w.heap.size+1 < W1.heap.size:=Nat.lt_of_lt_of_le hs1 hb2.size
 clear r0 r1 r2 L0 L1 hb2 B1
 obtain ⟨R,hRR⟩:∃ R,PS.ringsN q n 4 s=R:=⟨_,rfl⟩
 have HRR:Hid (PS.ringsN q n 4 s=R):=hRR
 clear hRR
 have I0:Hid (Moved own W1 p s W1):=(M.out.below B2.out).went (Below.refl _ _)
 go_wp2_with fail
 go_loopw [13] (fun i wr=>∃ (k:Nat) (S:PS),k≤4∧i=.int .i64 k∧Hid (PS.ringsN q n (4 - k) S=R)∧Hid S.Fit∧Hid (Moved own W1 p S wr)) (fun i _=>4 - (intOf i).toNat)
 case atStart=>exact ⟨0,s,Nat.zero_le _,rfl,HRR,HF,I0⟩
 case round =>
  obtain ⟨k,S,hk,rfl,HS,FSt,I⟩:=hrel
  by_cases hlt:k < 4
  ·have zk:(k:Int) < 4:=by omega
   obtain ⟨own2,G2,m2,cg2⟩:=I.out
   have M2:Hid (PMem wr p S own2 G2):=m2
   have CG2:Hid (ChgQ own W1 wr own2):=cg2
   have L0k:Hid (wr.heap[w.heap.size]?=_):=(cg2.block _ (by omega) (M.out.off (Nat.le_refl _))).trans L02.out
   have hs3:w.heap.size+1 < wr.heap.size:=Nat.lt_of_lt_of_le hs2 cg2.size
   clear m2 cg2
   obtain ⟨_,_,d2⟩:=who_cells L0k.out
   have HYG:Hid (Calls Try.prog 102 #[.pointer (some ⟨p,tO q,none⟩),.int .i64 (n:Int)] wr (YgPost wr ((S.t q).youngest n))):=youngest_is M2.out hq hn FSt.out
   cases hy:(S.t q).youngest n with
   | none =>
    rw [hy] at HYG
    have HE:Hid (S=R):=by show _=_; rw [← HS.out,ringsN_no hy]
    go_wp2_with fail
    refine HYG.out.mono ?_
    rintro e w4 ⟨hb4,he4⟩
    simp only at he4
    subst he4
    have IR:Hid (Moved own W1 p R w4):=by show Moved _ _ _ _ _; rw [← HE.out]; exact I.out.below hb4
    clear hb4 d2 hy HYG M2 CG2 hs3 I L0k
    have hmvR:Hid (Moved own W1 p R w4):=IR
    obtain ⟨ownR,GR,mR,cgR⟩:=hmvR.out
    have L0R:Hid (w4.heap[w.heap.size]?=_):=(cgR.block _ (by omega) (M.out.off (Nat.le_refl _))).trans L02.out
    have L1R:Hid (ansBlk w4 (w.heap.size+1) 0 0 (.slice none 0 0)):=(cgR.block _ (by omega) (M.out.off (by omega))).trans L12.out
    have NR:Hid (ownR (w.heap.size+1)=none):=cgR.off (by omega) (M.out.off (by omega))
    have MR:Hid (PMem w4 p R ownR GR):=mR
    have CGR:Hid (ChgQ own w w4 ownR):=(ChgQ.of_below B2.out).trans cgR
    have hsR:w.heap.size+1 < w4.heap.size:=Nat.lt_of_lt_of_le hs2 cgR.size
    clear mR cgR
    obtain ⟨_,_,d2⟩:=who_cells L0R.out
    have he:=ses_ended (MR.out.sesAt hq hn)
    have kne:=kin_some w4
    have kx2:=kin_cell d2
    go_upto_region 9 with fail
    refine wp_region_kin (by kernel_rfl) (by kernel_rfl) ?_
    repeat (first | go_big_quiet_step (fail) | quiet_step (fail))
    refine wpQuiet_nil ?_
    intro _ hw'
    obtain ⟨xq,hw''⟩:=hw'
    subst hw''
    have MS:Hid (PMem xq.w p R ownR GR):=MR.out.below xq.h
    have CGS:Hid (ChgQ own w xq.w ownR):=CGR.out.trans (ChgQ.of_below xq.h)
    have LS:Hid (ansBlk xq.w (w.heap.size+1) 0 0 (.slice none 0 0)):=(xq.h.block _ (by omega)).trans L1R.out
    clear kne kx2 d2 he
    generalize xq.w=wS at *
    have he:=ses_ended (MS.out.sesAt hq hn)
    have hpS:=MS.out.lt
    have hsS:w.heap.size+1 < wS.heap.size:=(Array.getElem?_eq_some_iff.1 LS.out).1
    by_cases hen:((R.t q).ses n).ended=0
    ·have HP:Hid (s.ringsT q n=(R,⟨1,0,[]⟩)):=by show _=_; unfold PS.ringsT; rw [HRR.out,if_pos hen]
     rw [hen] at he
     obtain ⟨b0,b1,b2⟩:=moved_chain CGS.out (b:=w.heap.size+1) (by omega) NR.out LS.out (MS.out.went (Below.refl _ _)) 1 0
     obtain ⟨e0,e1,e2,f0,f1,f2⟩:=ans_cells b0
     have A1:Hid (ansBlk _ _ _ _ _):=b1
     have A2:Hid (AQ _ _ _ _ _ _ _):=b2
     clear b0 b1 b2 hen
     go_wp2
     refine ret_ans Try.results81 rfl A1.out rfl ?_
     rw [HP.out]; exact A2.out
    ·have HP:Hid (s.ringsT q n=(R.untold q n,⟨2,((R.t q).ses n).ended,[]⟩)):=by show _=_; unfold PS.ringsT; rw [HRR.out,if_neg hen]
     have hne:(((R.t q).ses n).ended == 0)=false:=by simpa using hen
     clear hen
     go_wp2_with fail
     refine (tellEnd_is MS.out hq hn).mono ?_
     intro e w6 haq
     generalize hen2:((R.t q).ses n).ended=en at *
     generalize R.untold q n=R2 at *
     obtain ⟨ao,cap,rfl,a0,a1,a2⟩:=aq_chain CGS.out (b:=w.heap.size+1) (by omega) NR.out LS.out haq
     clear he
     obtain ⟨e0,e1,e2,f0,f1,f2⟩:=ans_cells a0
     have A1:Hid (ansBlk _ _ _ _ _):=a1
     have A2:Hid (AQ _ _ _ _ _ _ _):=a2
     clear a0 a1 a2 haq hen2
     unfold ansV
     go_wp2
     refine ret_ans Try.results81 rfl A1.out rfl ?_
     rw [HP.out]; exact A2.out
   | some y =>
    rw [hy] at HYG
    have hy4:=youngest_lt FSt.out hq hy
    have HE:Hid (PS.ringsN q n (4 - (k+1)) (S.setT q ((S.t q).forceT y 2)).settleT=R):=by
     show _=_
     rw [← HS.out,show 4 - k=(4 - (k+1))+1 by omega,ringsN_yes hy]
    have zy:(y:Int) < 4:=by omega
    have FN:Hid (S.setT q ((S.t q).forceT y 2)).Fit:=FSt.out.setT ((FSt.out.tr q hq).forceT y 2)
    go_wp2_with fail
    refine HYG.out.mono ?_
    rintro e w4 ⟨hb4,he4⟩
    simp only at he4
    subst he4
    have M4:Hid (PMem w4 p S own2 G2):=M2.out.below hb4
    have CG4:Hid (ChgQ own W1 w4 own2):=CG2.out.trans (ChgQ.of_below hb4)
    clear hb4 d2 hy HYG
    go_wp2_with fail
    refine (force_is (why:=2) M4.out hq hy4 (FSt.out.short q hq).1 (FSt.out.short q hq).2).mono ?_
    rintro e w5 ⟨rfl,own5,G5,m5,cg5⟩
    have M5:Hid (PMem w5 p (S.setT q ((S.t q).forceT y 2)) own5 G5):=m5
    have CG5:Hid (ChgQ own W1 w5 own5):=CG4.out.trans cg5
    clear m5 cg5
    go_wp2_with fail
    refine (settle_is M5.out FN.out).mono ?_
    have FT:Hid (S.setT q ((S.t q).forceT y 2)).settleT.Fit:=FN.out.settleT
    generalize (S.setT q ((S.t q).forceT y 2)).settleT=S' at *
    rintro e w6 ⟨rfl,hmv⟩
    have I':Hid (Moved own W1 p S' w6):=Moved.trans CG5.out hmv
    clear hmv
    go_wp2
    go_roundw
    case rel=>exact ⟨k+1,S',by omega,by go_num,HE,FT,I'⟩
    case measure=>simp [intOf]; omega
  ·have e:k=4:=by omega
   subst e
   have HE:Hid (S=R):=HS
   have IR:Hid (Moved own W1 p R wr):=by show Moved _ _ _ _ _; rw [← HE.out]; exact I.out
   clear HE I
   have hmvR:Hid (Moved own W1 p R wr):=IR
   obtain ⟨ownR,GR,mR,cgR⟩:=hmvR.out
   have L0R:Hid (wr.heap[w.heap.size]?=_):=(cgR.block _ (by omega) (M.out.off (Nat.le_refl _))).trans L02.out
   have L1R:Hid (ansBlk wr (w.heap.size+1) 0 0 (.slice none 0 0)):=(cgR.block _ (by omega) (M.out.off (by omega))).trans L12.out
   have NR:Hid (ownR (w.heap.size+1)=none):=cgR.off (by omega) (M.out.off (by omega))
   have MR:Hid (PMem wr p R ownR GR):=mR
   have CGR:Hid (ChgQ own w wr ownR):=(ChgQ.of_below B2.out).trans cgR
   have hsR:w.heap.size+1 < wr.heap.size:=Nat.lt_of_lt_of_le hs2 cgR.size
   clear mR cgR
   obtain ⟨_,_,d2⟩:=who_cells L0R.out
   have he:=ses_ended (MR.out.sesAt hq hn)
   have kne:=kin_some wr
   have kx2:=kin_cell d2
   go_upto_region 9 with fail
   refine wp_region_kin (by kernel_rfl) (by kernel_rfl) ?_
   repeat (first | go_big_quiet_step (fail) | quiet_step (fail))
   refine wpQuiet_nil ?_
   intro _ hw'
   obtain ⟨xq,hw''⟩:=hw'
   subst hw''
   have MS:Hid (PMem xq.w p R ownR GR):=MR.out.below xq.h
   have CGS:Hid (ChgQ own w xq.w ownR):=CGR.out.trans (ChgQ.of_below xq.h)
   have LS:Hid (ansBlk xq.w (w.heap.size+1) 0 0 (.slice none 0 0)):=(xq.h.block _ (by omega)).trans L1R.out
   clear kne kx2 d2 he
   generalize xq.w=wS at *
   have he:=ses_ended (MS.out.sesAt hq hn)
   have hpS:=MS.out.lt
   have hsS:w.heap.size+1 < wS.heap.size:=(Array.getElem?_eq_some_iff.1 LS.out).1
   by_cases hen:((R.t q).ses n).ended=0
   ·have HP:Hid (s.ringsT q n=(R,⟨1,0,[]⟩)):=by show _=_; unfold PS.ringsT; rw [HRR.out,if_pos hen]
    rw [hen] at he
    obtain ⟨b0,b1,b2⟩:=moved_chain CGS.out (b:=w.heap.size+1) (by omega) NR.out LS.out (MS.out.went (Below.refl _ _)) 1 0
    obtain ⟨e0,e1,e2,f0,f1,f2⟩:=ans_cells b0
    have A1:Hid (ansBlk _ _ _ _ _):=b1
    have A2:Hid (AQ _ _ _ _ _ _ _):=b2
    clear b0 b1 b2 hen
    go_wp2
    refine ret_ans Try.results81 rfl A1.out rfl ?_
    rw [HP.out]; exact A2.out
   ·have HP:Hid (s.ringsT q n=(R.untold q n,⟨2,((R.t q).ses n).ended,[]⟩)):=by show _=_; unfold PS.ringsT; rw [HRR.out,if_neg hen]
    have hne:(((R.t q).ses n).ended == 0)=false:=by simpa using hen
    clear hen
    go_wp2_with fail
    refine (tellEnd_is MS.out hq hn).mono ?_
    intro e w6 haq
    generalize hen2:((R.t q).ses n).ended=en at *
    generalize R.untold q n=R2 at *
    obtain ⟨ao,cap,rfl,a0,a1,a2⟩:=aq_chain CGS.out (b:=w.heap.size+1) (by omega) NR.out LS.out haq
    clear he
    obtain ⟨e0,e1,e2,f0,f1,f2⟩:=ans_cells a0
    have A1:Hid (ansBlk _ _ _ _ _):=a1
    have A2:Hid (AQ _ _ _ _ _ _ _):=a2
    clear a0 a1 a2 haq hen2
    unfold ansV
    go_wp2
    refine ret_ans Try.results81 rfl A1.out rfl ?_
    rw [HP.out]; exact A2.out
def aimB (x:Stp):Bool:=decide (0≤x.key∧x.key≤15) && labB x.at_.1 x.at_.2
theorem below1 {w w1:World} {o:Obj} (hb:Below (w.alloc o).heap.size (w.alloc o) w1):Below w.heap.size w w1:=((Below.refl _ _).alloc (Nat.le_refl _) _).trans (hb.mono (by simp))
theorem valid_is {l c:Int} {b:Bool} (h:labB l c=b) (w:World):Calls Try.prog 68 #[.agg #[.int .i64 l,.int .i64 c]] w fun e w'=>e=.returned (.bool b)∧Below w.heap.size w w':=by
 subst h; exact valid_any l c w
theorem aimed_is {x:Stp} {b:Bool} (hb:aimB x=b) (w:World):Calls Try.prog 69 #[stepV x] w fun e w'=>e=.returned (.bool b)∧Below w.heap.size w w':=by
 obtain ⟨⟨x0,x1,x2⟩,x3,⟨x4,x5⟩,x6,x7,x8⟩:=x
 unfold stepV
 unfold aimB at hb
 simp only at hb
 by_cases h1:0≤x6∧x6≤15
 ·obtain ⟨h1,h2⟩:=h1
  have hb':labB x4 x5=b:=by rw [← hb]; simp [h1,h2]
  clear hb
  go_enter Try.func69,Try.ntmps69
  go_wp2_with fail
  refine (valid_is hb' _).mono ?_
  rintro e w1 ⟨rfl,hb1⟩
  go_wp2
  go_ret
  exact ⟨rfl,below1 hb1⟩
 ·have hb':b=false:=by rw [← hb]; simp [h1]
  subst hb'
  clear hb
  have h2:x6 < 0∨15 < x6:=by omega
  rcases h2 with h2 | h2
  ·go_enter Try.func69,Try.ntmps69
   go_wp2
   go_ret
   exact ⟨rfl,(Below.refl _ _).alloc (Nat.le_refl _) _⟩
  ·have h3:¬ x6 < 0:=by omega
   go_enter Try.func69,Try.ntmps69
   go_wp2
   go_ret
   exact ⟨rfl,(Below.refl _ _).alloc (Nat.le_refl _) _⟩
theorem allowed_is {x:Stp} {b:Bool} (hb:x.may=b) (h1:labB x.who.1 x.who.2.1=true) (h2:labB x.at_.1 x.at_.2=true) (w:World):Calls Try.prog 74 #[stepV x] w (BoolPost w b):=by
 obtain ⟨⟨x0,x1,x2⟩,x3,⟨x4,x5⟩,x6,x7,x8⟩:=x
 unfold stepV
 unfold Stp.may at hb
 simp only at hb h1 h2
 by_cases h4:x3=4
 ·subst h4
  rw [if_pos (.inl rfl)] at hb
  subst hb
  go_enter Try.func74,Try.ntmps74
  go_wp2
  all_goals go_ret
  all_goals refine ⟨ret_bool ?_,(Below.refl _ _).alloc (Nat.le_refl _) _⟩
  all_goals simp_all [sameL]
 ·by_cases h5:x3=5
  ·subst h5
   rw [if_pos (.inr rfl)] at hb
   subst hb
   clear h4
   go_enter Try.func74,Try.ntmps74
   go_wp2
   all_goals go_ret
   all_goals refine ⟨ret_bool ?_,(Below.refl _ _).alloc (Nat.le_refl _) _⟩
   all_goals simp_all [sameL]
  ·rw [if_neg (fun h=>h.elim h4 h5)] at hb
   have g4:(x3 == 4)=false:=by simpa using h4
   have g5:(x3 == 5)=false:=by simpa using h5
   clear h4 h5
   have HD:Hid (∀ w,Calls Try.prog 95 #[.agg #[.int .i64 x0,.int .i64 x1],.agg #[.int .i64 x4,.int .i64 x5]] w fun e w'=>e=.returned (.bool b)∧Below w.heap.size w w'):=fun w=>by rw [← hb]; exact dom_any x0 x1 x4 x5 w h1 h2
   go_enter Try.func74,Try.ntmps74
   go_wp2_with fail
   refine (HD.out _).mono ?_
   rintro e w1 ⟨rfl,hb1⟩
   go_wp2
   go_ret
   exact ⟨rfl,below1 hb1⟩
theorem possible_any (x:Stp) (w:World):Calls Try.prog 50 #[stepV x] w (BoolPost w (properB x)):=by
 obtain ⟨⟨x0,x1,x2⟩,x3,⟨x4,x5⟩,x6,x7,x8⟩:=x
 by_cases hn:0≤x2∧x2≤3
 ·obtain ⟨n1,n2⟩:=hn
  cases hl:labB x0 x1
  ·have HP:Hid (properB ⟨(x0,x1,x2),x3,(x4,x5),x6,x7,x8⟩=false):=by show _=_; simp [properB,hl]
   generalize properB ⟨(x0,x1,x2),x3,(x4,x5),x6,x7,x8⟩=B at *
   unfold stepV
   go_enter Try.func50,Try.ntmps50
   go_wp2_with fail
   refine (valid_is hl _).mono ?_
   rintro e w1 ⟨rfl,hb1⟩
   go_wp2
   go_ret
   exact ⟨ret_bool HP.out.symm,below1 hb1⟩
  ·by_cases h1:x3=1
   ·subst h1
    have HP:Hid (properB ⟨(x0,x1,x2),1,(x4,x5),x6,x7,x8⟩=true):=by show _=_; simp [properB,hl,n1,n2,asksB]
    generalize properB ⟨(x0,x1,x2),1,(x4,x5),x6,x7,x8⟩=B at *
    unfold stepV
    go_enter Try.func50,Try.ntmps50
    go_wp2_with fail
    refine (valid_is hl _).mono ?_
    rintro e w1 ⟨rfl,hb1⟩
    obtain ⟨c1,f1⟩:=bcell hb1
    have hB1:=below1 hb1
    have hz1:w.heap.size < w1.heap.size:=by have:=hb1.size; simp at this; omega
    clear hb1
    go_wp2
    go_ret
    exact ⟨ret_bool HP.out.symm,hB1⟩
   ·by_cases h6:x3=6
    ·subst h6
     clear h1
     have HP:Hid (properB ⟨(x0,x1,x2),6,(x4,x5),x6,x7,x8⟩=true):=by show _=_; simp [properB,hl,n1,n2,asksB]
     generalize properB ⟨(x0,x1,x2),6,(x4,x5),x6,x7,x8⟩=B at *
     unfold stepV
     go_enter Try.func50,Try.ntmps50
     go_wp2_with fail
     refine (valid_is hl _).mono ?_
     rintro e w1 ⟨rfl,hb1⟩
     obtain ⟨c1,f1⟩:=bcell hb1
     have hB1:=below1 hb1
     have hz1:w.heap.size < w1.heap.size:=by have:=hb1.size; simp at this; omega
     clear hb1
     go_wp2
     go_ret
     exact ⟨ret_bool HP.out.symm,hB1⟩
    ·by_cases h7:x3=7
     ·subst h7
      clear h1 h6
      have HP:Hid (properB ⟨(x0,x1,x2),7,(x4,x5),x6,x7,x8⟩=true):=by show _=_; simp [properB,hl,n1,n2,asksB]
      generalize properB ⟨(x0,x1,x2),7,(x4,x5),x6,x7,x8⟩=B at *
      unfold stepV
      go_enter Try.func50,Try.ntmps50
      go_wp2_with fail
      refine (valid_is hl _).mono ?_
      rintro e w1 ⟨rfl,hb1⟩
      obtain ⟨c1,f1⟩:=bcell hb1
      have hB1:=below1 hb1
      have hz1:w.heap.size < w1.heap.size:=by have:=hb1.size; simp at this; omega
      clear hb1
      go_wp2
      go_ret
      exact ⟨ret_bool HP.out.symm,hB1⟩
     ·by_cases h8:x3=8
      ·subst h8
       clear h1 h6 h7
       have HP:Hid (properB ⟨(x0,x1,x2),8,(x4,x5),x6,x7,x8⟩=true):=by show _=_; simp [properB,hl,n1,n2,asksB]
       generalize properB ⟨(x0,x1,x2),8,(x4,x5),x6,x7,x8⟩=B at *
       unfold stepV
       go_enter Try.func50,Try.ntmps50
       go_wp2_with fail
       refine (valid_is hl _).mono ?_
       rintro e w1 ⟨rfl,hb1⟩
       obtain ⟨c1,f1⟩:=bcell hb1
       have hB1:=below1 hb1
       have hz1:w.heap.size < w1.heap.size:=by have:=hb1.size; simp at this; omega
       clear hb1
       go_wp2
       go_ret
       exact ⟨ret_bool HP.out.symm,hB1⟩
      ·by_cases h2:x3=2
       ·subst h2
        clear h1 h6 h7 h8
        have HP:Hid (properB ⟨(x0,x1,x2),2,(x4,x5),x6,x7,x8⟩=aimB ⟨(x0,x1,x2),2,(x4,x5),x6,x7,x8⟩):=by show _=_; simp [properB,aimB,hl,n1,n2,asksB,Bool.and_comm]
        generalize properB ⟨(x0,x1,x2),2,(x4,x5),x6,x7,x8⟩=B at *
        unfold stepV
        go_enter Try.func50,Try.ntmps50
        go_wp2_with fail
        refine (valid_is hl _).mono ?_
        rintro e w1 ⟨rfl,hb1⟩
        obtain ⟨c1,f1⟩:=bcell hb1
        have hB1:=below1 hb1
        have hz1:w.heap.size < w1.heap.size:=by have:=hb1.size; simp at this; omega
        clear hb1
        go_wp2_with fail
        refine (aimed_is (x:=⟨(x0,x1,x2),2,(x4,x5),x6,x7,x8⟩) rfl _).mono ?_
        rintro e w2 ⟨rfl,hb2⟩
        have hB2:Below w.heap.size w w2:=hB1.trans (hb2.mono hB1.size)
        go_wp2
        go_ret
        exact ⟨ret_bool HP.out.symm,hB2⟩
       ·by_cases h5:x3=5
        ·subst h5
         clear h1 h6 h7 h8 h2
         have HP:Hid (properB ⟨(x0,x1,x2),5,(x4,x5),x6,x7,x8⟩=aimB ⟨(x0,x1,x2),5,(x4,x5),x6,x7,x8⟩):=by show _=_; simp [properB,aimB,hl,n1,n2,asksB,Bool.and_comm]
         generalize properB ⟨(x0,x1,x2),5,(x4,x5),x6,x7,x8⟩=B at *
         unfold stepV
         go_enter Try.func50,Try.ntmps50
         go_wp2_with fail
         refine (valid_is hl _).mono ?_
         rintro e w1 ⟨rfl,hb1⟩
         obtain ⟨c1,f1⟩:=bcell hb1
         have hB1:=below1 hb1
         have hz1:w.heap.size < w1.heap.size:=by have:=hb1.size; simp at this; omega
         clear hb1
         go_wp2_with fail
         refine (aimed_is (x:=⟨(x0,x1,x2),5,(x4,x5),x6,x7,x8⟩) rfl _).mono ?_
         rintro e w2 ⟨rfl,hb2⟩
         have hB2:Below w.heap.size w w2:=hB1.trans (hb2.mono hB1.size)
         go_wp2
         go_ret
         exact ⟨ret_bool HP.out.symm,hB2⟩
        ·by_cases h3:x3=3
         ·subst h3
          clear h1 h6 h7 h8 h2 h5
          have HP:Hid (properB ⟨(x0,x1,x2),3,(x4,x5),x6,x7,x8⟩=(aimB ⟨(x0,x1,x2),3,(x4,x5),x6,x7,x8⟩ && decide (x6≤x7∧x7≤15))):=by show _=_; simp [properB,aimB,hl,n1,n2,asksB,Bool.and_comm]
          generalize properB ⟨(x0,x1,x2),3,(x4,x5),x6,x7,x8⟩=B at *
          cases ha:aimB ⟨(x0,x1,x2),3,(x4,x5),x6,x7,x8⟩
          ·rw [ha,Bool.false_and] at HP
           unfold stepV
           go_enter Try.func50,Try.ntmps50
           go_wp2_with fail
           refine (valid_is hl _).mono ?_
           rintro e w1 ⟨rfl,hb1⟩
           obtain ⟨c1,f1⟩:=bcell hb1
           have hB1:=below1 hb1
           have hz1:w.heap.size < w1.heap.size:=by have:=hb1.size; simp at this; omega
           clear hb1
           go_wp2_with fail
           refine (aimed_is (x:=⟨(x0,x1,x2),3,(x4,x5),x6,x7,x8⟩) ha _).mono ?_
           rintro e w2 ⟨rfl,hb2⟩
           have hB2:Below w.heap.size w w2:=hB1.trans (hb2.mono hB1.size)
           go_wp2
           go_ret
           exact ⟨ret_bool HP.out.symm,hB2⟩
          ·rw [ha,Bool.true_and] at HP
           unfold stepV
           go_enter Try.func50,Try.ntmps50
           go_wp2_with fail
           refine (valid_is hl _).mono ?_
           rintro e w1 ⟨rfl,hb1⟩
           obtain ⟨c1,f1⟩:=bcell hb1
           have hB1:=below1 hb1
           have hz1:w.heap.size < w1.heap.size:=by have:=hb1.size; simp at this; omega
           clear hb1
           go_wp2_with fail
           refine (aimed_is (x:=⟨(x0,x1,x2),3,(x4,x5),x6,x7,x8⟩) ha _).mono ?_
           rintro e w2 ⟨rfl,hb2⟩
           have hB2:Below w.heap.size w w2:=hB1.trans (hb2.mono hB1.size)
           obtain ⟨c2,f2⟩:=bcell hb2
           have hz2:w.heap.size < w2.heap.size:=Nat.lt_of_lt_of_le hz1 hb2.size
           clear hb2
           go_wp2
           all_goals go_ret
           all_goals refine ⟨ret_bool ?_,hB2⟩
           all_goals rw [HP.out]
           all_goals (first | (simp; omega) | simp_all)
         ·by_cases h4:x3=4
          ·subst h4
           clear h1 h6 h7 h8 h2 h5 h3
           have HP:Hid (properB ⟨(x0,x1,x2),4,(x4,x5),x6,x7,x8⟩=(aimB ⟨(x0,x1,x2),4,(x4,x5),x6,x7,x8⟩ && decide (0≤x8∧x8≤999))):=by show _=_; simp [properB,aimB,hl,n1,n2,asksB,Bool.and_comm]
           generalize properB ⟨(x0,x1,x2),4,(x4,x5),x6,x7,x8⟩=B at *
           cases ha:aimB ⟨(x0,x1,x2),4,(x4,x5),x6,x7,x8⟩
           ·rw [ha,Bool.false_and] at HP
            unfold stepV
            go_enter Try.func50,Try.ntmps50
            go_wp2_with fail
            refine (valid_is hl _).mono ?_
            rintro e w1 ⟨rfl,hb1⟩
            obtain ⟨c1,f1⟩:=bcell hb1
            have hB1:=below1 hb1
            have hz1:w.heap.size < w1.heap.size:=by have:=hb1.size; simp at this; omega
            clear hb1
            go_wp2_with fail
            refine (aimed_is (x:=⟨(x0,x1,x2),4,(x4,x5),x6,x7,x8⟩) ha _).mono ?_
            rintro e w2 ⟨rfl,hb2⟩
            have hB2:Below w.heap.size w w2:=hB1.trans (hb2.mono hB1.size)
            go_wp2
            go_ret
            exact ⟨ret_bool HP.out.symm,hB2⟩
           ·rw [ha,Bool.true_and] at HP
            unfold stepV
            go_enter Try.func50,Try.ntmps50
            go_wp2_with fail
            refine (valid_is hl _).mono ?_
            rintro e w1 ⟨rfl,hb1⟩
            obtain ⟨c1,f1⟩:=bcell hb1
            have hB1:=below1 hb1
            have hz1:w.heap.size < w1.heap.size:=by have:=hb1.size; simp at this; omega
            clear hb1
            go_wp2_with fail
            refine (aimed_is (x:=⟨(x0,x1,x2),4,(x4,x5),x6,x7,x8⟩) ha _).mono ?_
            rintro e w2 ⟨rfl,hb2⟩
            have hB2:Below w.heap.size w w2:=hB1.trans (hb2.mono hB1.size)
            obtain ⟨c2,f2⟩:=bcell hb2
            have hz2:w.heap.size < w2.heap.size:=Nat.lt_of_lt_of_le hz1 hb2.size
            clear hb2
            go_wp2
            all_goals go_ret
            all_goals refine ⟨ret_bool ?_,hB2⟩
            all_goals rw [HP.out]
            all_goals (first | (simp; omega) | simp_all)
          ·have HP:Hid (properB ⟨(x0,x1,x2),x3,(x4,x5),x6,x7,x8⟩=false):=by
            show _=_
            have:¬ (1≤x3∧x3≤8):=by omega
            simp [properB]; intros; omega
           generalize properB ⟨(x0,x1,x2),x3,(x4,x5),x6,x7,x8⟩=B at *
           have g1:(x3 == 1)=false:=by simpa using h1
           have g6:(x3 == 6)=false:=by simpa using h6
           have g7:(x3 == 7)=false:=by simpa using h7
           have g8:(x3 == 8)=false:=by simpa using h8
           have g2:(x3 == 2)=false:=by simpa using h2
           have g5:(x3 == 5)=false:=by simpa using h5
           have g3:(x3 == 3)=false:=by simpa using h3
           have g4:(x3 == 4)=false:=by simpa using h4
           clear h1 h6 h7 h8 h2 h5 h3 h4
           unfold stepV
           go_enter Try.func50,Try.ntmps50
           go_wp2_with fail
           refine (valid_is hl _).mono ?_
           rintro e w1 ⟨rfl,hb1⟩
           obtain ⟨c1,f1⟩:=bcell hb1
           have hB1:=below1 hb1
           have hz1:w.heap.size < w1.heap.size:=by have:=hb1.size; simp at this; omega
           clear hb1
           go_wp2
           go_ret
           exact ⟨ret_bool HP.out.symm,hB1⟩
 ·have HP:Hid (properB ⟨(x0,x1,x2),x3,(x4,x5),x6,x7,x8⟩=false):=by
   show _=_
   simp [properB]; intros; omega
  generalize properB ⟨(x0,x1,x2),x3,(x4,x5),x6,x7,x8⟩=B at *
  have h2:x2 < 0∨3 < x2:=by omega
  unfold stepV
  rcases h2 with h2 | h2
  ·go_enter Try.func50,Try.ntmps50
   go_wp2
   go_ret
   exact ⟨ret_bool HP.out.symm,(Below.refl _ _).alloc (Nat.le_refl _) _⟩
  ·have h3:¬ x2 < 0:=by omega
   go_enter Try.func50,Try.ntmps50
   go_wp2
   go_ret
   exact ⟨ret_bool HP.out.symm,(Below.refl _ _).alloc (Nat.le_refl _) _⟩
theorem AQ.toA {own:Own} {w W:World} {p:Nat} {s:PS} {a:Ans} {e:Ending} (h:AQ own w p s a e W):APost own w (fun w' o=>PRep w' p s o) a e W:=by
 obtain ⟨v,o,G,h1,h2,h3,h4,h5⟩:=h
 exact ⟨v,o,h1,h2,⟨G,h3⟩,h4.toD,fun b hb=>⟨(h5 b hb).1,(h5 b hb).2.elim (fun h=>.inl h.1) .inr⟩⟩
theorem chgD_free {own own':Own} {w w1:World} {b o:Nat} (h:ChgD own w w1 own') (hb:w.heap.size≤b) (cs:List Value):ChgD own w (w1.setCells b o cs) own':=by
 have hkb:=World.keptBut_setCells b (may:=fun _=>True) cs o w1 (fun _ _=>trivial)
 have hs:∀ k,k < w.heap.size→(w1.setCells b o cs).heap[k]?=w1.heap[k]?:=fun k hk=>setCells_other _ _ _ _ (by omega)
 exact ⟨hkb.1.trans h.os,(setCells_tape _ _ _).trans h.tape,hkb.2.1.trans h.output,by rw [setCells_size]; exact h.size,fun k hk hn=>(hs k hk).trans (h.block k hk hn),h.fresh⟩
theorem ad_chain {own own1:Own} {w W1 W:World} {p b:Nat} {s':PS} {a:Ans} {e:Ending} (cg:ChgD own w W1 own1) (hb:w.heap.size≤b) (ho1:own1 b=none) (hblk:ansBlk W1 b 0 0 (.slice none 0 0)) (h:AQ own1 W1 p s' a e W) :
  ∃ ao cap,e=.returned (ansV a.code a.why (.slice ao a.items.length cap))∧ansBlk W b 0 0 (.slice none 0 0)∧ansBlk (ansW W b a.code a.why (.slice ao a.items.length cap)) b a.code a.why (.slice ao a.items.length cap) ∧
   APost own w (fun w' o=>PRep w' p s' o) a (.returned (ansV a.code a.why (.slice ao a.items.length cap))) (ansW W b a.code a.why (.slice ao a.items.length cap)):=by
 obtain ⟨v,o2,G2,rfl,hrow,m2,cg2,hv⟩:=h
 obtain ⟨ao,cap,rfl⟩:=ownsRow_form hrow
 have hb1:b < W1.heap.size:=(Array.getElem?_eq_some_iff.1 hblk).1
 have ho2:o2 b=none:=cg2.off hb1 ho1
 have hW:ansBlk W b 0 0 (.slice none 0 0):=(cg2.block b hb1 ho1).trans hblk
 have hvb:∀ k,(Value.slice ao a.items.length cap).ownBlock=some k→k≠b:=fun k hk e=>by
  subst e
  rcases (hv k hk).2 with h | h
  ·exact h.1 ho1
  ·omega
 have hWW:ansW W b a.code a.why (.slice ao a.items.length cap)=W.setCells b 0 [.int .i64 a.code,.int .i64 a.why,.slice ao a.items.length cap]:=rfl
 refine ⟨ao,cap,rfl,hW,ans_stored _ _ _ hW,_,o2,rfl,?_,⟨G2,?_⟩,?_,?_⟩
 ·rw [hWW]; exact ownsRow_frame hrow (fun k hk=>setCells_other _ _ _ _ (hvb k hk))
 ·rw [hWW]; exact m2.free ho2 _
 ·rw [hWW]; exact chgD_free (cg.trans cg2.toD) hb _
 ·intro k hk
  refine ⟨(hv k hk).1,?_⟩
  rcases (hv k hk).2 with h | h
  ·exact cg.fresh k h.1
  ·exact .inr (Nat.le_trans cg.size h)
theorem AQ.next {own own1:Own} {w W W2:World} {p b:Nat} {s2:PS} {a:Ans} {v:Value} (hrow:W.ownsRow 0 94 2 v a.items.length (itemsV a.items)) (cg:ChgQ own w W own1) (hv:∀ b,v.ownBlock=some b→own1 b=none∧((own b≠none∧∀ x,own b≠some (5,x))∨w.heap.size≤b)) (h:Moved own1 W p s2 W2) (hb:b < W.heap.size) (ho:own1 b=none) :
  AQ own w p s2 a (.returned (ansV a.code a.why v)) W2∧W2.heap[b]?=W.heap[b]?:=by
 obtain ⟨o2,G2,m2,cg2⟩:=h
 refine ⟨⟨v,o2,G2,rfl,ownsRow_frame hrow (fun k hk=>cg2.block k (ownsRow_lt hrow k hk) (hv k hk).1),m2,cg.trans cg2,fun k hk=>⟨cg2.off (ownsRow_lt hrow k hk) (hv k hk).1,(hv k hk).2⟩⟩,cg2.block b hb ho⟩
theorem Tr.Fit.joinT {q n:Nat} {t:Tr} {x:Stp} (F:t.Fit q) (hn:n < 4) (hnq:hasB t.queue n=false) (hl:t.lockTo 4+1≤32) (hx:ReqFit q n x):(t.joinT n x).Fit q:=by
 have hnot:n ∉ t.queue:=fun h=>by
  have:hasB t.queue n=true:=by unfold hasB; rw [List.any_eq_true]; exact ⟨n,h,by simp⟩
  rw [this] at hnq; cases hnq
 refine ⟨F.begN,F.begL,?_,?_,?_,?_⟩
 ·show (t.queue++[n]).Nodup
  rw [List.nodup_append]
  refine ⟨F.queN,by simp,fun a ha b hb e=>?_⟩
  simp at hb; subst hb; subst e; exact hnot ha
 ·intro m hm
  rcases List.mem_append.1 hm with h | h
  ·exact F.queL m h
  ·simp at h; omega
 ·intro m hm
  show ReqFit q m (upd t.ses n _ m).req
  by_cases e:m=n
  ·subst e; rw [upd_same]; exact hx
  ·rw [upd_ne _ _ e]
   rcases List.mem_append.1 hm with h | h
   ·exact F.req m h
   ·simp at h; exact absurd h e
 ·rw [lockTo4] at hl ⊢
  have h2:∀ m,((t.joinT n x).ses m).locks=(t.ses m).locks:=fun m=>by
   show (upd t.ses n _ m).locks=_
   unfold upd; split
   ·rename_i e; rw [e]
   ·rfl
  rw [h2,h2,h2,h2]
  show (t.queue++[n]).length+_≤32
  rw [List.length_append]
  simp only [List.length_singleton]
  omega
theorem joinT_ses (t:Tr) (n:Nat) (x:Stp):((t.joinT n x).ses n).req=x:=by show (upd t.ses n _ n).req=x; rw [upd_same]
theorem joinT_mem (t:Tr) (n:Nat) (x:Stp):n∈(t.joinT n x).queue:=by show n∈t.queue++[n]; simp
theorem may_wr {x:Stp} {q n:Nat} (hw:x.who=whoOf q n) (hm:x.may=true):(lkOf x).wr=true→x.at_=labOf q:=fun h=>by
 unfold Stp.may at hm
 rw [if_pos (by simpa [lkOf] using h)] at hm
 unfold sameL at hm
 have:=of_decide_eq_true hm
 rw [hw] at this
 exact Prod.ext this.1 this.2
end Go.Proofs.Ytpbcplfpjcacfaa
