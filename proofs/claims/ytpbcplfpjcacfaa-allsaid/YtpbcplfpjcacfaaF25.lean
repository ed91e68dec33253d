import Derived.Test.YtpbcplfpjcacfaaF24
namespace Go.Proofs.Ytpbcplfpjcacfaa
open Go.RowKit
set_option maxRecDepth 100000
set_option maxHeartbeats 8000000
def AskPost (own:Own) (w:World) (p:Nat) (s:PS) (a:Ans) (e:Ending) (w':World):Prop:=APost own w (fun w' o=>PRep w' p s o) a e w'
theorem ask_is {w:World} {p q n:Nat} {x:Stp} {s:PS} {own:Own} {G:PG} (m:PMem w p s own G) (hq:q < 32) (hn:n < 4) (hx:ReqOk q n x) (F:s.Fit) (hnq:hasB (s.t q).queue n=false) :
  Calls Try.prog 59 #[.pointer (some ⟨p,0,none⟩),stepV x] w (AskPost own w p (s.askT q n x).1 (s.askT q n x).2):=by
 have M:Hid (PMem w p s own G):=m
 have HF:Hid s.Fit:=F
 have HX:Hid (ReqOk q n x):=hx
 have hp:=m.lt
 have zn:(n:Int) < 4:=by omega
 have HNQ:Hid (hasB (s.t q).queue n=false):=hnq
 have HNO:Hid (∀ k,w.heap.size≤k→own k=none):=fun k hk=>m.off hk
 clear m F hnq
 have h32:(s.t q).lockTo 4≤32:=(HF.out.tr q hq).lock
 have hqq:(s.t q).queue.length≤4:=(HF.out.short q hq).2
 have HC:Hid (s.c≤32):=HF.out.c
 obtain ⟨hw,hk,hl⟩:=hx
 have hlab:labB x.who.1 x.who.2.1=true:=by rw [hw]; exact labOf_ok hq
 have hpl:plOf (x.who.1,x.who.2.1)=q:=by rw [hw]; exact plOf_labOf hq
 have h22:x.who.2.2=(n:Int):=by rw [hw]; rfl
 have HW:Hid (x.who=whoOf q n):=hw
 have HALL:Hid (∀ w',Calls Try.prog 74 #[stepV x] w' (BoolPost w' x.may)):=fun w'=>allowed_is rfl hlab hl w'
 clear hw hk
 have HK:Hid (s.askT q n x=if x.may=false then (s,⟨3,0,[]⟩) else if ((s.t q).ses n).covB (lkOf x) then s.grantT q n x else if s.c≤((s.t q).lockTo 4:Int) then (s,⟨4,0,[]⟩) else if (s.setT q ((s.t q).joinT n x)).hindB q n then (s.setT q ((s.t q).joinT n x)).ringsT q n else (((s.setT q ((s.t q).joinT n x)).admitT q n).1.settleT,((s.setT q ((s.t q).joinT n x)).admitT q n).2)):=rfl
 generalize s.askT q n x=AT at *
 have hz:stepV x=.agg #[.int .i64 x.who.1,.int .i64 x.who.2.1,.int .i64 (n:Int),.int .i64 x.op,.int .i64 x.at_.1,.int .i64 x.at_.2,.int .i64 x.key,.int .i64 x.to_,.int .i64 x.value]:=by unfold stepV; rw [h22]
 rw [hz]
 have HZ:Hid (stepV x=.agg #[.int .i64 x.who.1,.int .i64 x.who.2.1,.int .i64 (n:Int),.int .i64 x.op,.int .i64 x.at_.1,.int .i64 x.at_.2,.int .i64 x.key,.int .i64 x.to_,.int .i64 x.value]):=hz
 have HSTP:Hid (stepC x=[.int .i64 x.who.1,.int .i64 x.who.2.1,.int .i64 (n:Int),.int .i64 x.op,.int .i64 x.at_.1,.int .i64 x.at_.2,.int .i64 x.key,.int .i64 x.to_,.int .i64 x.value]):=by show _=_; unfold stepC; rw [h22]
 have H22:Hid (x.who.2.2=(n:Int)):=h22
 clear h22 hz
 go_enter Try.func59,Try.ntmps59
 go_upto_region 1 with fail
 obtain ⟨B1,L0,L1⟩:=entry2 (w:=w) (x:=x)
 unfold stpObj ansObj at *
 rw [H22.out] at B1 L0 L1
 generalize (w.alloc _).alloc _=W1 at *
 have hs1:w.heap.size+1 < W1.heap.size:=(Array.getElem?_eq_some_iff.1 L1.out).1
 have HCE:Hid (∀ W:World,W.heap[w.heap.size]?=some (.cells (stepC x).toArray 30 (0,0))→W.cell? ⟨w.heap.size,0,none⟩=some (.int .i64 x.who.1)∧W.cell? ⟨w.heap.size,1,none⟩=some (.int .i64 x.who.2.1)∧W.cell? ⟨w.heap.size,2,none⟩=some (.int .i64 (n:Int))∧W.cell? ⟨w.heap.size,3,none⟩=some (.int .i64 x.op)∧W.cell? ⟨w.heap.size,4,none⟩=some (.int .i64 x.at_.1)∧W.cell? ⟨w.heap.size,5,none⟩=some (.int .i64 x.at_.2)∧W.cell? ⟨w.heap.size,6,none⟩=some (.int .i64 x.key)∧W.cell? ⟨w.heap.size,7,none⟩=some (.int .i64 x.to_)∧W.cell? ⟨w.heap.size,8,none⟩=some (.int .i64 x.value)):=fun W h=>by
  have:=stp_cells (loc_stp h)
  simp only [Nat.zero_add] at this
  rw [H22.out] at this
  exact this
 obtain ⟨r0,r1,r2,r3,r4,r5,r6,r7,r8⟩:=HCE.out _ L0.out
 have HALL1:Hid (∀ w',Calls Try.prog 74 #[.agg #[.int .i64 x.who.1,.int .i64 x.who.2.1,.int .i64 (n:Int),.int .i64 x.op,.int .i64 x.at_.1,.int .i64 x.at_.2,.int .i64 x.key,.int .i64 x.to_,.int .i64 x.value]] w' (BoolPost w' x.may)):=fun w'=>by have:=HALL.out w'; rw [HZ.out] at this; exact this
 have HASK:Hid (∀ w',Calls Try.prog 75 #[.agg #[.int .i64 x.who.1,.int .i64 x.who.2.1,.int .i64 (n:Int),.int .i64 x.op,.int .i64 x.at_.1,.int .i64 x.at_.2,.int .i64 x.key,.int .i64 x.to_,.int .i64 x.value]] w' fun e w''=>e=.returned (lkV (lkOf x))∧Below w'.heap.size w' w''):=fun w'=>by have:=asked_any x w'; rw [HZ.out] at this; exact this
 have HGR:Hid (∀ w',PMem w' p s own G→Calls Try.prog 77 #[.pointer (some ⟨p,0,none⟩),.agg #[.int .i64 x.who.1,.int .i64 x.who.2.1,.int .i64 (n:Int),.int .i64 x.op,.int .i64 x.at_.1,.int .i64 x.at_.2,.int .i64 x.key,.int .i64 x.to_,.int .i64 x.value]] w' (AQ own w' p (s.grantT q n x).1 (s.grantT q n x).2)):=fun w' hm=>by have:=grant_is hm hq hn HX.out.who HX.out.key HX.out.lab; rw [HZ.out] at this; exact this
 have HJN:Hid (∀ w',PMem w' p s own G→Calls Try.prog 79 #[.pointer (some ⟨p,tO q,none⟩),.agg #[.int .i64 x.who.1,.int .i64 x.who.2.1,.int .i64 (n:Int),.int .i64 x.op,.int .i64 x.at_.1,.int .i64 x.at_.2,.int .i64 x.key,.int .i64 x.to_,.int .i64 x.value]] w' fun e w''=>e=.returned (.tuple #[])∧MovedD own w' p (s.setT q ((s.t q).joinT n x)) w''):=fun w' hm=>by have:=join_is hm hq hn H22.out hqq; rw [HZ.out] at this; exact this
 have HWO:Hid ((x.who.1,x.who.2.1,(n:Int))=whoOf q n):=by show _=_; rw [← H22.out]; exact HW.out
 clear HALL HZ
 cases hm:x.may
 ·rw [hm] at HALL1 HK
  go_wp2_with fail
  refine (HALL1.out _).mono ?_
  rintro e w2 ⟨rfl,hb2⟩
  have B2:Hid (Below w.heap.size w w2):=B1.out.trans (hb2.mono B1.out.size)
  have L12:Hid (ansBlk w2 (w.heap.size+1) 0 0 (.slice none 0 0)):=(hb2.block _ (by omega)).trans L1.out
  clear r0 r1 r2 r3 r4 r5 r6 r7 r8 hb2
  obtain ⟨a1,a2⟩:=still_chain M.out B2.out (b:=w.heap.size+1) (by omega) L12.out 3 0
  obtain ⟨e0,e1,e2,f0,f1,f2⟩:=ans_cells L12.out
  have A1:Hid (ansBlk _ _ _ _ _):=a1
  have A2:Hid (APost _ _ _ _ _ _):=a2.toA
  clear a1 a2
  go_wp2
  refine ret_ans Try.results59 rfl A1.out rfl ?_
  rw [HK.out]; exact A2.out
 ·have RF:Hid (ReqFit q n x):=⟨HX.out,may_wr HW.out hm⟩
  have HK2:Hid (AT=if ((s.t q).ses n).covB (lkOf x) then s.grantT q n x else if s.c≤((s.t q).lockTo 4:Int) then (s,⟨4,0,[]⟩) else if (s.setT q ((s.t q).joinT n x)).hindB q n then (s.setT q ((s.t q).joinT n x)).ringsT q n else (((s.setT q ((s.t q).joinT n x)).admitT q n).1.settleT,((s.setT q ((s.t q).joinT n x)).admitT q n).2)):=by
   show _=_
   have:=HK.out
   rw [if_neg (by rw [hm]; simp)] at this; exact this
  rw [hm] at HALL1
  clear HK
  go_wp2_with fail
  refine (HALL1.out _).mono ?_
  rintro e w2 ⟨rfl,hb2⟩
  have B2:Hid (Below w.heap.size w w2):=B1.out.trans (hb2.mono B1.out.size)
  have L02:Hid (w2.heap[w.heap.size]?=some (.cells (stepC x).toArray 30 (0,0))):=(hb2.block _ (by omega)).trans L0.out
  have L12:Hid (ansBlk w2 (w.heap.size+1) 0 0 (.slice none 0 0)):=(hb2.block _ (by omega)).trans L1.out
  have hs2:w.heap.size+1 < w2.heap.size:=Nat.lt_of_lt_of_le hs1 hb2.size
  clear r0 r1 r2 r3 r4 r5 r6 r7 r8 hb2 L0 L1 B1 HALL1
  obtain ⟨r0,r1,r2,r3,r4,r5,r6,r7,r8⟩:=HCE.out _ L02.out
  go_wp2_with fail
  refine (tier_is (a:=(x.who.1,x.who.2.1)) hlab hpl).mono ?_
  rintro e w3 ⟨rfl,hb3⟩
  have B3:Hid (Below w.heap.size w w3):=B2.out.trans (hb3.mono B2.out.size)
  have L03:Hid (w3.heap[w.heap.size]?=some (.cells (stepC x).toArray 30 (0,0))):=(hb3.block _ (by omega)).trans L02.out
  have L13:Hid (ansBlk w3 (w.heap.size+1) 0 0 (.slice none 0 0)):=(hb3.block _ (by omega)).trans L12.out
  have hs3:w.heap.size+1 < w3.heap.size:=Nat.lt_of_lt_of_le hs2 hb3.size
  clear r0 r1 r2 r3 r4 r5 r6 r7 r8 hb3 L02 L12 B2
  obtain ⟨r0,r1,r2,r3,r4,r5,r6,r7,r8⟩:=HCE.out _ L03.out
  have kne:=kin_some w3
  have kx2:=kin_cell r2
  go_upto_region 4 with fail
  refine wp_region_kin (by kernel_rfl) (by kernel_rfl) ?_
  repeat (first | go_big_quiet_step (fail) | quiet_step (fail))
  refine wpQuiet_nil ?_
  intro _ hw'
  obtain ⟨xq,hw''⟩:=hw'
  subst hw''
  have B4:Hid (Below w.heap.size w xq.w):=B3.out.trans (xq.h.mono B3.out.size)
  have L04:Hid (xq.w.heap[w.heap.size]?=some (.cells (stepC x).toArray 30 (0,0))):=(xq.h.block _ (by omega)).trans L03.out
  have L14:Hid (ansBlk xq.w (w.heap.size+1) 0 0 (.slice none 0 0)):=(xq.h.block _ (by omega)).trans L13.out
  have hs4:w.heap.size+1 < xq.w.heap.size:=Nat.lt_of_lt_of_le hs3 xq.h.size
  clear kne kx2 r0 r1 r2 r3 r4 r5 r6 r7 r8 L03 L13 B3
  generalize xq.w=w4 at *
  obtain ⟨r0,r1,r2,r3,r4,r5,r6,r7,r8⟩:=HCE.out _ L04.out
  go_wp2_with fail
  refine (HASK.out _).mono ?_
  rintro e w5 ⟨rfl,hb5⟩
  have HLK:Hid (∀ W,PMem W p s own G→∀ b,((s.t q).ses n).covB (lkOf x)=b→Calls Try.prog 76 #[.pointer (some ⟨p,tO q+32+n*79,none⟩),lkV (lkOf x)] W fun e w'=>e=.returned (.bool b)∧Below W.heap.size W w'):=fun W hm b hb=>sesCov_at hm hq hn hb
  generalize lkOf x=r at *
  unfold lkV at *
  have B6:Hid (Below w.heap.size w (w5.alloc (lkObj r))):=(B4.out.trans (hb5.mono B4.out.size)).alloc (Nat.le_trans B4.out.size hb5.size) _
  have L06:Hid ((w5.alloc (lkObj r)).heap[w.heap.size]?=some (.cells (stepC x).toArray 30 (0,0))):=(heap_alloc_old (by have:=hb5.size; omega)).trans ((hb5.block _ (by omega)).trans L04.out)
  have L16:Hid (ansBlk (w5.alloc (lkObj r)) (w.heap.size+1) 0 0 (.slice none 0 0)):=(heap_alloc_old (by have:=hb5.size; omega)).trans ((hb5.block _ (by omega)).trans L14.out)
  have LK6:Hid ((w5.alloc (lkObj r)).heap[w5.heap.size]?=some (.cells #[.int .i64 r.at_.1,.int .i64 r.at_.2,.int .i64 r.lo,.int .i64 r.hi,.bool r.wr] 148 (0,0))):=heap_alloc_new w5 _
  clear r0 r1 r2 r3 r4 r5 r6 r7 r8 hb5 L04 L14 B4
  unfold lkObj at *
  go_upto_region 6 with fail
  generalize w5.alloc _=W6 at *
  have hs6:w.heap.size+1 < W6.heap.size:=(Array.getElem?_eq_some_iff.1 L16.out).1
  have hl6:w5.heap.size < W6.heap.size:=(Array.getElem?_eq_some_iff.1 LK6.out).1
  obtain ⟨c0,c1,c2,c3,c4⟩:=lk_cells LK6.out
  cases hcv:((s.t q).ses n).covB r
  ·have HK3:Hid (AT=if s.c≤((s.t q).lockTo 4:Int) then (s,⟨4,0,[]⟩) else if (s.setT q ((s.t q).joinT n x)).hindB q n then (s.setT q ((s.t q).joinT n x)).ringsT q n else (((s.setT q ((s.t q).joinT n x)).admitT q n).1.settleT,((s.setT q ((s.t q).joinT n x)).admitT q n).2)):=by
    show _=_
    have:=HK2.out
    rw [if_neg (by rw [hcv]; simp)] at this; exact this
   go_wp2_with fail
   refine (HLK.out W6 (M.out.below B6.out) false hcv).mono ?_
   rintro e w7 ⟨rfl,hb7⟩
   have B7:Hid (Below w.heap.size w w7):=B6.out.trans (hb7.mono B6.out.size)
   have L07:Hid (w7.heap[w.heap.size]?=some (.cells (stepC x).toArray 30 (0,0))):=(hb7.block _ (by omega)).trans L06.out
   have L17:Hid (ansBlk w7 (w.heap.size+1) 0 0 (.slice none 0 0)):=(hb7.block _ (by omega)).trans L16.out
   have hs7:w.heap.size+1 < w7.heap.size:=Nat.lt_of_lt_of_le hs6 hb7.size
   clear c0 c1 c2 c3 c4 hb7 L06 L16 LK6
   have M7:Hid (PMem w7 p s own G):=M.out.below B7.out
   obtain ⟨_,_,kc⟩:=M7.out.keysC
   have kne:=kin_some w7
   have kk:=kin_cell kc
   have HTn:Hid (∀ x:Kin w7,Calls Try.prog 78 #[.pointer (some ⟨p,tO q,none⟩)] x.w fun e w'=>e=.returned (.int .i64 ((s.t q).lockTo 4:Nat))∧Below x.w.heap.size x.w w'):=fun x=>(locks_is (M7.out.below x.h) hq h32).mono fun e w' ⟨h1,h2⟩=>⟨h1,by subst h2; exact Below.refl _ _⟩
   go_upto_region 8 with fail
   refine wp_region_kin (by kernel_rfl) (by kernel_rfl) ?_
   repeat (first | go_big_quiet_step ((go_at_call 78; exact Calls.kin (HTn.out _))) | quiet_step ((go_at_call 78; exact Calls.kin (HTn.out _))))
   refine wpQuiet_nil ?_
   intro _ hw'
   obtain ⟨xq8,hw''⟩:=hw'
   subst hw''
   have B8:Hid (Below w.heap.size w xq8.w):=B7.out.trans (xq8.h.mono B7.out.size)
   have L08:Hid (xq8.w.heap[w.heap.size]?=some (.cells (stepC x).toArray 30 (0,0))):=(xq8.h.block _ (by omega)).trans L07.out
   have L18:Hid (ansBlk xq8.w (w.heap.size+1) 0 0 (.slice none 0 0)):=(xq8.h.block _ (by omega)).trans L17.out
   clear kne kk HTn kc L07 L17 B7
   generalize xq8.w=w8 at *
   have hs8:w.heap.size+1 < w8.heap.size:=(Array.getElem?_eq_some_iff.1 L18.out).1
   by_cases hfull:s.c≤((s.t q).lockTo 4:Int)
   ·have HK4:Hid (AT=(s,⟨4,0,[]⟩)):=by show _=_; have:=HK3.out; rw [if_pos hfull] at this; exact this
    obtain ⟨a1,a2⟩:=still_chain M.out B8.out (b:=w.heap.size+1) (by omega) L18.out 4 0
    obtain ⟨e0,e1,e2,f0,f1,f2⟩:=ans_cells L18.out
    have A1:Hid (ansBlk _ _ _ _ _):=a1
    have A2:Hid (APost _ _ _ _ _ _):=a2.toA
    clear a1 a2
    go_wp2
    refine ret_ans Try.results59 rfl A1.out rfl ?_
    rw [HK4.out]; exact A2.out
   ·have HK4:Hid (AT=if (s.setT q ((s.t q).joinT n x)).hindB q n then (s.setT q ((s.t q).joinT n x)).ringsT q n else (((s.setT q ((s.t q).joinT n x)).admitT q n).1.settleT,((s.setT q ((s.t q).joinT n x)).admitT q n).2)):=by show _=_; have:=HK3.out; rw [if_neg hfull] at this; exact this
    have FJ:Hid (s.setT q ((s.t q).joinT n x)).Fit:=by
     have hc:=HC.out
     exact HF.out.setT ((HF.out.tr q hq).joinT hn HNQ.out (by omega) RF.out)
    have HRJ:Hid ((((s.setT q ((s.t q).joinT n x)).t q).ses n).req=x):=by show _=_; rw [setT_t,joinT_ses]
    have HMJ:Hid (n∈((s.setT q ((s.t q).joinT n x)).t q).queue):=by show _∈_; rw [setT_t]; exact joinT_mem _ _ _
    obtain ⟨r0,r1,r2,r3,r4,r5,r6,r7,r8⟩:=HCE.out _ L08.out
    have HJ8:=HJN.out w8 (M.out.below B8.out)
    have HJ:Hid (Calls _ _ _ _ _):=HJ8
    clear HJ8
    generalize s.setT q ((s.t q).joinT n x)=SJ at *
    go_wp2_with fail
    refine HJ.out.mono ?_
    rintro e w9 ⟨rfl,own9,G9,m9,cg9⟩
    have M9:Hid (PMem w9 p SJ own9 G9):=m9
    have CG9:Hid (ChgD own w w9 own9):=(ChgD.of_below B8.out).trans cg9
    have L09:Hid (w9.heap[w.heap.size]?=some (.cells (stepC x).toArray 30 (0,0))):=(cg9.block _ (by omega) (HNO.out _ (Nat.le_refl _))).trans L08.out
    have L19:Hid (ansBlk w9 (w.heap.size+1) 0 0 (.slice none 0 0)):=(cg9.block _ (by omega) (HNO.out _ (by omega))).trans L18.out
    have N9:Hid (own9 (w.heap.size+1)=none∧own9 w.heap.size=none):=⟨cg9.off (HNO.out _ (by omega)) (by omega),cg9.off (HNO.out _ (Nat.le_refl _)) (by omega)⟩
    clear r0 r1 r2 r3 r4 r5 r6 r7 r8 m9 cg9 L08 L18 HJ
    have hs9:w.heap.size+1 < w9.heap.size:=(Array.getElem?_eq_some_iff.1 L19.out).1
    obtain ⟨r0,r1,r2,r3,r4,r5,r6,r7,r8⟩:=HCE.out _ L09.out
    have hlx:labB ((SJ.t q).ses n).req.at_.1 ((SJ.t q).ses n).req.at_.2=true:=by rw [HRJ.out]; exact HX.out.lab
    cases hh:SJ.hindB q n
    ·have HK5:Hid (AT=((SJ.admitT q n).1.settleT,(SJ.admitT q n).2)):=by show _=_; have:=HK4.out; rw [if_neg (by rw [hh]; simp)] at this; exact this
     go_wp2_with fail
     refine (isHind_is (a:=(x.who.1,x.who.2.1,(n:Int))) M9.out hq hn HWO.out hlx hh).mono ?_
     rintro e w10 ⟨rfl,hb10⟩
     have M10:Hid (PMem w10 p SJ own9 G9):=M9.out.below hb10
     have CG10:Hid (ChgD own w w10 own9):=CG9.out.trans (ChgD.of_below hb10)
     have L010:Hid (w10.heap[w.heap.size]?=some (.cells (stepC x).toArray 30 (0,0))):=(hb10.block _ (by omega)).trans L09.out
     have L110:Hid (ansBlk w10 (w.heap.size+1) 0 0 (.slice none 0 0)):=(hb10.block _ (by omega)).trans L19.out
     have hs10:w.heap.size+1 < w10.heap.size:=Nat.lt_of_lt_of_le hs9 hb10.size
     clear r0 r1 r2 r3 r4 r5 r6 r7 r8 hb10 L09 L19
     obtain ⟨r0,r1,r2,r3,r4,r5,r6,r7,r8⟩:=HCE.out _ L010.out
     go_wp2_with fail
     refine (admit_is (a:=(x.who.1,x.who.2.1,(n:Int))) M10.out hq hn HWO.out (by rw [HRJ.out]; exact HX.out) FJ.out.short ((FJ.out.tr q hq).locks hn)).mono ?_
     rintro e w11 ⟨v,own11,G11,rfl,hrow,m11,cg11,hv⟩
     have FA:Hid (SJ.admitT q n).1.Fit:=FJ.out.admitT hq HMJ.out
     generalize SJ.admitT q n=SA at *
     obtain ⟨ao,cap,rfl⟩:=ownsRow_form hrow
     have B12:Hid (Below w11.heap.size w11 (w11.alloc (.cells #[.int .i64 SA.2.code,.int .i64 SA.2.why,.slice ao SA.2.items.length cap] 66))):=(Below.refl _ _).alloc (Nat.le_refl _) _
     have LA:Hid (ansBlk (w11.alloc (.cells #[.int .i64 SA.2.code,.int .i64 SA.2.why,.slice ao SA.2.items.length cap] 66)) w11.heap.size SA.2.code SA.2.why (.slice ao SA.2.items.length cap)):=heap_alloc_new w11 _
     have M11:Hid (PMem w11 p SA.1 own11 G11):=m11
     have HR11:Hid (w11.ownsRow 0 94 2 (.slice ao SA.2.items.length cap) SA.2.items.length (itemsV SA.2.items)):=hrow
     have CG11:Hid (ChgQ own9 w10 w11 own11):=cg11
     have HV11:Hid (∀ b,(Value.slice ao SA.2.items.length cap).ownBlock=some b→own11 b=none∧((own9 b≠none∧∀ x,own9 b≠some (5,x))∨w10.heap.size≤b)):=hv
     have hz11:=cg11.size
     clear m11 hrow cg11 hv r0 r1 r2 r3 r4 r5 r6 r7 r8
     unfold ansV
     go_upto_region 14 with fail
     generalize w11.alloc _=W12 at *
     have hz12:w11.heap.size < W12.heap.size:=(Array.getElem?_eq_some_iff.1 LA.out).1
     have M12:Hid (PMem W12 p SA.1 own11 G11):=M11.out.below B12.out
     have CG12:Hid (ChgQ own9 w10 W12 own11):=CG11.out.trans (ChgQ.of_below B12.out)
     have HR12:Hid (W12.ownsRow 0 94 2 (.slice ao SA.2.items.length cap) SA.2.items.length (itemsV SA.2.items)):=ownsRow_below HR11.out B12.out
     go_wp2_with fail
     refine (settle_is M12.out FA.out).mono ?_
     generalize SA.1.settleT=ST at *
     rintro e w13 ⟨rfl,hmv⟩
     obtain ⟨haq,hblk⟩:=AQ.next (a:=SA.2) HR12.out CG12.out HV11.out hmv hz12 (M11.out.off (Nat.le_refl _))
     have LA13:ansBlk w13 w11.heap.size SA.2.code SA.2.why (.slice ao SA.2.items.length cap):=hblk.trans LA.out
     obtain ⟨ao',cap',e',b0,b1,b2⟩:=ad_chain CG10.out (b:=w.heap.size+1) (by omega) N9.out.1 L110.out haq
     have ev:(Value.slice ao SA.2.items.length cap)=.slice ao' SA.2.items.length cap':=by
      unfold ansV at e'
      injection e' with e'
      injection e' with e'
      simpa using e'
     rw [← ev] at b1 b2
     obtain ⟨e0,e1,e2,f0,f1,f2⟩:=ans_cells b0
     obtain ⟨g0,g1,g2,_,_,_⟩:=ans_cells LA13
     have A1:Hid (ansBlk _ _ _ _ _):=b1
     have A2:Hid (APost _ _ _ _ _ _):=b2
     have hz13:w11.heap.size < w13.heap.size:=(Array.getElem?_eq_some_iff.1 LA13).1
     clear b0 b1 b2 hmv haq hblk LA13 e' ev
     go_wp2
     refine ret_ans Try.results59 rfl A1.out rfl ?_
     rw [HK5.out]; exact A2.out
    ·have HK5:Hid (AT=SJ.ringsT q n):=by show _=_; have:=HK4.out; rw [if_pos hh] at this; exact this
     go_wp2_with fail
     refine (isHind_is (a:=(x.who.1,x.who.2.1,(n:Int))) M9.out hq hn HWO.out hlx hh).mono ?_
     rintro e w10 ⟨rfl,hb10⟩
     have M10:Hid (PMem w10 p SJ own9 G9):=M9.out.below hb10
     have CG10:Hid (ChgD own w w10 own9):=CG9.out.trans (ChgD.of_below hb10)
     have L010:Hid (w10.heap[w.heap.size]?=some (.cells (stepC x).toArray 30 (0,0))):=(hb10.block _ (by omega)).trans L09.out
     have L110:Hid (ansBlk w10 (w.heap.size+1) 0 0 (.slice none 0 0)):=(hb10.block _ (by omega)).trans L19.out
     have hs10:w.heap.size+1 < w10.heap.size:=Nat.lt_of_lt_of_le hs9 hb10.size
     clear r0 r1 r2 r3 r4 r5 r6 r7 r8 hb10 L09 L19
     obtain ⟨r0,r1,r2,r3,r4,r5,r6,r7,r8⟩:=HCE.out _ L010.out
     go_wp2_with fail
     refine (rings_is (a:=(x.who.1,x.who.2.1,(n:Int))) M10.out hq hn HWO.out FJ.out).mono ?_
     generalize SJ.ringsT q n=RT at *
     intro e w11 haq
     obtain ⟨ao,cap,rfl,b0,b1,b2⟩:=ad_chain CG10.out (b:=w.heap.size+1) (by omega) N9.out.1 L110.out haq
     obtain ⟨e0,e1,e2,f0,f1,f2⟩:=ans_cells b0
     have A1:Hid (ansBlk _ _ _ _ _):=b1
     have A2:Hid (APost _ _ _ _ _ _):=b2
     clear b0 b1 b2 haq r0 r1 r2 r3 r4 r5 r6 r7 r8
     unfold ansV
     go_wp2
     refine ret_ans Try.results59 rfl A1.out rfl ?_
     rw [HK5.out]; exact A2.out
  ·have HK3:Hid (AT=s.grantT q n x):=by show _=_; have:=HK2.out; rw [if_pos hcv] at this; exact this
   go_wp2_with fail
   refine (HLK.out W6 (M.out.below B6.out) true hcv).mono ?_
   rintro e w7 ⟨rfl,hb7⟩
   have B7:Hid (Below w.heap.size w w7):=B6.out.trans (hb7.mono B6.out.size)
   have L07:Hid (w7.heap[w.heap.size]?=some (.cells (stepC x).toArray 30 (0,0))):=(hb7.block _ (by omega)).trans L06.out
   have L17:Hid (ansBlk w7 (w.heap.size+1) 0 0 (.slice none 0 0)):=(hb7.block _ (by omega)).trans L16.out
   have hs7:w.heap.size+1 < w7.heap.size:=Nat.lt_of_lt_of_le hs6 hb7.size
   clear c0 c1 c2 c3 c4 hb7 L06 L16 LK6
   obtain ⟨r0,r1,r2,r3,r4,r5,r6,r7,r8⟩:=HCE.out _ L07.out
   go_wp2_with fail
   refine (HGR.out w7 (M.out.below B7.out)).mono ?_
   generalize s.grantT q n x=GT at *
   intro e w8 haq
   obtain ⟨ao,cap,rfl,b0,b1,b2⟩:=ad_chain (ChgD.of_below B7.out) (b:=w.heap.size+1) (by omega) (HNO.out _ (by omega)) L17.out haq
   obtain ⟨e0,e1,e2,f0,f1,f2⟩:=ans_cells b0
   have A1:Hid (ansBlk _ _ _ _ _):=b1
   have A2:Hid (APost _ _ _ _ _ _):=b2
   clear b0 b1 b2 haq r0 r1 r2 r3 r4 r5 r6 r7 r8
   unfold ansV
   go_wp2
   refine ret_ans Try.results59 rfl A1.out rfl ?_
   rw [HK3.out]; exact A2.out
theorem commit_is {w:World} {p q n:Nat} {a:Wh} {s:PS} {own:Own} {G:PG} (m:PMem w p s own G) (hq:q < 32) (hn:n < 4) (ha:a=whoOf q n) (F:s.Fit) :
  Calls Try.prog 58 #[.pointer (some ⟨p,0,none⟩),.agg #[.int .i64 a.1,.int .i64 a.2.1,.int .i64 a.2.2]] w (AQ own w p (s.commitT q n).1 (s.commitT q n).2):=by
 have M:Hid (PMem w p s own G):=m
 have HF:Hid s.Fit:=F
 have hp:=m.lt
 have zn:(n:Int) < 4:=by omega
 have HA:Hid (a=whoOf q n):=ha
 clear m F
 obtain ⟨a0,a1,a2⟩:=a
 simp only [whoOf,Prod.mk.injEq] at ha
 obtain ⟨h0,h1,h2⟩:=ha
 subst h2
 have Ha:Hid ((a0,a1)=labOf q):=by show _=_; rw [h0,h1]
 have hlab:labB a0 a1=true:=by rw [h0,h1]; exact labOf_ok hq
 have hpl:plOf (a0,a1)=q:=by rw [Ha.out]; exact plOf_labOf hq
 clear h0 h1
 have HP:Hid (s.commitT q n=((s.setI q (((s.t q).ses n).wr.over (s.t q).items)).finishT q n,⟨0,0,[]⟩)):=rfl
 go_enter Try.func58,Try.ntmps58
 go_upto_region 1 with fail
 obtain ⟨B1,L0,L1⟩:=entryW (w:=w) (a:=(a0,a1,(n:Int)))
 unfold whoObj ansObj at *
 simp only at *
 generalize (w.alloc _).alloc _=W1 at *
 have hs1:w.heap.size+1 < W1.heap.size:=(Array.getElem?_eq_some_iff.1 L1.out).1
 obtain ⟨r0,r1,r2⟩:=who_cells L0.out
 go_wp2_with fail
 refine (tier_is (a:=(a0,a1)) hlab hpl).mono ?_
 rintro e w2 ⟨rfl,hb2⟩
 have B2:Hid (Below w.heap.size w w2):=B1.out.trans (hb2.mono B1.out.size)
 have L02:Hid (w2.heap[w.heap.size]?=_):=(hb2.block _ (by omega)).trans L0.out
 have L12:Hid (ansBlk w2 (w.heap.size+1) 0 0 (.slice none 0 0)):=(hb2.block _ (by omega)).trans L1.out
 have hs2:w.heap.size+1 < w2.heap.size:=Nat.lt_of_lt_of_le hs1 hb2.size
 clear r0 r1 r2 L0 L1 hb2 B1
 obtain ⟨s0,s1,s2⟩:=who_cells L02.out
 go_upto_region 2 with fail
 have kne:=kin_some w2
 have kx2:=kin_cell s2
 refine wp_region_kin (by kernel_rfl) (by kernel_rfl) ?_
 repeat (first | go_big_quiet_step (fail) | quiet_step (fail))
 refine wpQuiet_nil ?_
 intro _ hw'
 obtain ⟨xq,hw''⟩:=hw'
 subst hw''
 have B3:Hid (Below w.heap.size w xq.w):=B2.out.trans (xq.h.mono B2.out.size)
 have L03:Hid (xq.w.heap[w.heap.size]?=_):=(xq.h.block _ (by omega)).trans L02.out
 have L13:Hid (ansBlk xq.w (w.heap.size+1) 0 0 (.slice none 0 0)):=(xq.h.block _ (by omega)).trans L12.out
 have hs3:w.heap.size+1 < xq.w.heap.size:=Nat.lt_of_lt_of_le hs2 xq.h.size
 clear kne kx2 s0 s1 s2 L02 L12
 generalize xq.w=w3 at *
 have M3:Hid (PMem w3 p s own G):=M.out.below B3.out
 have HS:Hid (∀ W,Below w3.heap.size w3 W→W.rangeAt p (tO q) (tabV (s.t q).items)):=fun W hB=>(M3.out.below hB).items q hq
 have hS:=HS.out w3.drew (Below.refl _ _).drew
 generalize hTT:(s.t q).items=T at *
 go_upto_region 3 with fail
 refine wp_region_Z (z:=11) (S:=fun W=>W.rangeAt p (tO q) (tabV T)) (by kernel_rfl) ?_
 refine zC 9 (i:=0) (v:=?v1) (by decide +kernel) rfl (fun _ _ _ h=>h) hS (.inl ⟨by rfl,?y1⟩) ?_
 case y1=>(intro wz zs0; go_simp<;>with_reducible rfl)
 simp only [Act.put,z1,z2,z4]
 refine zC 9 (i:=1) (v:=?v2) (by decide +kernel) rfl (fun _ _ _ h=>h) hS (.inl ⟨by rfl,?y2⟩) ?_
 case y2=>(intro wz zs0; go_simp<;>with_reducible rfl)
 simp only [Act.put,z1,z2,z3,z4,z5,z6]
 refine zC 9 (i:=2) (v:=?v3) (by decide +kernel) rfl (fun _ _ _ h=>h) hS (.inl ⟨by rfl,?y3⟩) ?_
 case y3=>(intro wz zs0; go_simp<;>with_reducible rfl)
 simp only [Act.put,z1,z2,z3,z4,z5,z6]
 refine zC 9 (i:=3) (v:=?v4) (by decide +kernel) rfl (fun _ _ _ h=>h) hS (.inl ⟨by rfl,?y4⟩) ?_
 case y4=>(intro wz zs0; go_simp<;>with_reducible rfl)
 simp only [Act.put,z1,z2,z3,z4,z5,z6]
 refine zC 9 (i:=4) (v:=?v5) (by decide +kernel) rfl (fun _ _ _ h=>h) hS (.inl ⟨by rfl,?y5⟩) ?_
 case y5=>(intro wz zs0; go_simp<;>with_reducible rfl)
 simp only [Act.put,z1,z2,z3,z4,z5,z6]
 refine zC 9 (i:=5) (v:=?v6) (by decide +kernel) rfl (fun _ _ _ h=>h) hS (.inl ⟨by rfl,?y6⟩) ?_
 case y6=>(intro wz zs0; go_simp<;>with_reducible rfl)
 simp only [Act.put,z1,z2,z3,z4,z5,z6]
 refine zC 9 (i:=6) (v:=?v7) (by decide +kernel) rfl (fun _ _ _ h=>h) hS (.inl ⟨by rfl,?y7⟩) ?_
 case y7=>(intro wz zs0; go_simp<;>with_reducible rfl)
 simp only [Act.put,z1,z2,z3,z4,z5,z6]
 refine wpAnyZ_takeC 9 (i:=7) (v:=.agg (tabV T).toArray) (by decide +kernel) rfl (by decide +kernel) (by decide +kernel) (by decide +kernel) (by decide +kernel) (fun _ _ _ h=>h) hS (yieldsIf_load_mid (by rfl) 122 _ rfl p (tO q) (by rfl) (tabV T) _ (fun W h=>h) Try.underlying122 rfl (by rw [len_tabV]; exact size_tab)) ?_
 simp only [Act.put,List.setIfInBounds_toArray]
 refine wpAnyZ_one (i:=8) (by decide +kernel) rfl (fun K hK=>?_)
 go_simp
 refine (over_is (f:=T) (ses_wr ((M3.out.below (Below.refl _ _).drew).sesAt hq hn)) (M3.out.below (Below.refl _ _).drew).lt).mono ?_
 rintro e w5 ⟨rfl,hb5⟩
 have hb5':Below w3.heap.size w3 w5:=(Below.refl _ _).drew.trans hb5
 have M5:Hid (PMem w5 p s own G):=M3.out.below hb5'
 have CG5:Hid (ChgQ own w w5 own):=ChgQ.of_below (B3.out.trans (hb5'.mono B3.out.size))
 have L05:Hid (w5.heap[w.heap.size]?=_):=(hb5'.block _ (by omega)).trans L03.out
 have L15:Hid (ansBlk w5 (w.heap.size+1) 0 0 (.slice none 0 0)):=(hb5'.block _ (by omega)).trans L13.out
 have hS5:=HS.out w5 hb5'
 have HT:Hid (w5.there p (tO q) (tabV (((s.t q).ses n).wr.over T)).toArray.size):=M5.out.there (by rw [List.size_toArray,len_tabV]; unfold tO; omega)
 obtain ⟨m6,cg6⟩:=M5.out.setItems hq (((s.t q).ses n).wr.over T)
 refine hK _ _ (fun _=>hS5) ?_
 clear hK
 refine wpAnyZ_one (i:=9) (by decide +kernel) rfl (fun K hK=>?_)
 go_simp
 refine hK _ _ (fun _=>hS5) ?_
 clear hK
 refine wpAnyZ_one (i:=10) (by decide +kernel) rfl (fun K hK=>?_)
 go_simp
 refine hK _ _ (fun _=>hS5) ?_
 clear hK
 refine wpAnyZ_one (i:=11) (by decide +kernel) rfl (fun K hK=>?_)
 rw [if_pos (by rfl)]
 refine wp_store_mid 122 _ _ rfl p (tO q) (tabV (((s.t q).ses n).wr.over T)).toArray rfl rfl HT.out (by rw [List.size_toArray,len_tabV]; exact size_tab) (tab_one _) (hK _ _ (fun h=>absurd rfl h) ?_)
 clear hK
 refine wpAnyZ_done (by decide +kernel) ?_ _
 simp only
 have M6:Hid (PMem (w5.setCells p (tO q) (tabV (((s.t q).ses n).wr.over T))) p (s.setI q (((s.t q).ses n).wr.over T)) own G):=m6
 have CG6:Hid (ChgQ own w (w5.setCells p (tO q) (tabV (((s.t q).ses n).wr.over T))) own):=CG5.out.trans cg6
 have L06:Hid ((w5.setCells p (tO q) (tabV (((s.t q).ses n).wr.over T))).heap[w.heap.size]?=_):=(setCells_other _ _ _ _ (by omega)).trans L05.out
 have L16:Hid (ansBlk (w5.setCells p (tO q) (tabV (((s.t q).ses n).wr.over T))) (w.heap.size+1) 0 0 (.slice none 0 0)):=(setCells_other _ _ _ _ (by omega)).trans L15.out
 clear m6 cg6 hS hS5 HS HT hb5 hb5' L03 L13 L05 L15 M5 CG5
 generalize w5.setCells p (tO q) (tabV (((s.t q).ses n).wr.over T))=W6 at *
 have HF6:Hid (s.setI q (((s.t q).ses n).wr.over T)).Fit:=HF.out.setT ((HF.out.tr q hq).same rfl rfl (fun _ _=>rfl) (fun _ _=>rfl))
 generalize s.setI q (((s.t q).ses n).wr.over T)=s6 at *
 obtain ⟨c0,c1,c2⟩:=who_cells L06.out
 have hz6:w.heap.size+1 < W6.heap.size:=(Array.getElem?_eq_some_iff.1 L16.out).1
 go_wp2_with fail
 refine (finish_is (a:=(a0,a1,(n:Int))) M6.out hq hn HA.out HF6.out).mono ?_
 generalize s6.finishT q n=sF at *
 rintro e w7 ⟨rfl,hmv⟩
 obtain ⟨b0,b1,b2⟩:=moved_chain CG6.out (b:=w.heap.size+1) (by omega) (M.out.off (by omega)) L16.out hmv 0 0
 obtain ⟨e0,e1,e2,f0,f1,f2⟩:=ans_cells b0
 have A1:Hid (ansBlk _ _ _ _ _):=b1
 have A2:Hid (AQ _ _ _ _ _ _ _):=b2
 clear b0 b1 b2 hmv c0 c1 c2
 go_wp2
 refine ret_ans Try.results58 rfl A1.out rfl ?_
 rw [HP.out]; exact A2.out
end Go.Proofs.Ytpbcplfpjcacfaa
