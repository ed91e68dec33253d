import Derived.Test.YtpbcplfpjcacfaaF13
namespace Go.Proofs.Ytpbcplfpjcacfaa
open Go.RowKit
set_option maxRecDepth 100000
set_option maxHeartbeats 8000000
theorem PS.preTo_start (s:PS) (r:Lk):s.preTo r (plOf r.at_+1)=s:=by
 unfold PS.preTo
 have:(fun q=>if plOf r.at_ < q∧q < plOf r.at_+1 then (s.t q).preTo r 4 else s.t q)=s.t:=by
  funext q
  rw [if_neg (by omega)]
 rw [this]
theorem PS.preTo_at (s:PS) (r:Lk) (b:Nat):(s.preTo r b).t b=s.t b:=by
 show (if _ then _ else _)=_
 rw [if_neg (by omega)]
theorem PS.preTo_succ (s:PS) (r:Lk) {b:Nat} (h:plOf r.at_ < b):(s.preTo r b).setT b ((s.t b).preTo r 4)=s.preTo r (b+1):=by
 unfold PS.preTo PS.setT
 congr 1
 funext q
 unfold upd
 simp only
 by_cases e:q=b
 ·subst e; rw [if_pos rfl,if_pos ⟨h,by omega⟩]
 ·rw [if_neg e]
  by_cases h2:plOf r.at_ < q∧q < b
  ·rw [if_pos h2,if_pos ⟨h2.1,by omega⟩]
  ·rw [if_neg h2,if_neg (fun h3=>h2 ⟨h3.1,by omega⟩)]
theorem lsOff_len (l:List Nat) (n:Nat):(lsOff l n).length≤l.length:=List.length_filter_le _ _
theorem Tr.preTo_len (t:Tr) (r:Lk):∀ k,(t.preTo r k).begun.length≤t.begun.length∧(t.preTo r k).queue.length≤t.queue.length
 | 0=>⟨Nat.le_refl _,Nat.le_refl _⟩
 | k+1=>by
  have ih:=Tr.preTo_len t r k
  unfold Tr.preTo
  split
  ·exact ⟨Nat.le_trans (lsOff_len _ _) ih.1,Nat.le_trans (lsOff_len _ _) ih.2⟩
  ·exact ih
def PS.Short (s:PS):Prop:=∀ q,q < 32→(s.t q).begun.length≤4∧(s.t q).queue.length≤4
theorem lk_cells {w:World} {b:Nat} {r:Lk} (h:w.heap[b]?=some (.cells #[.int .i64 r.at_.1,.int .i64 r.at_.2,.int .i64 r.lo,.int .i64 r.hi,.bool r.wr] 148 (0,0))) :
  w.cell? ⟨b,0,none⟩=some (.int .i64 r.at_.1)∧w.cell? ⟨b,1,none⟩=some (.int .i64 r.at_.2)∧w.cell? ⟨b,2,none⟩=some (.int .i64 r.lo)∧w.cell? ⟨b,3,none⟩=some (.int .i64 r.hi)∧w.cell? ⟨b,4,none⟩=some (.bool r.wr):=by
 refine ⟨?_,?_,?_,?_,?_⟩
 all_goals rw [cell_of_row w b _ _ _ _ h]; rfl
theorem preempt_is {w:World} {p:Nat} {r:Lk} {s:PS} {own:Own} {G:PG} (m:PMem w p s own G) (hl:labB r.at_.1 r.at_.2=true) (hsh:s.Short) :
  Calls Try.prog 105 #[.pointer (some ⟨p,0,none⟩),lkV r] w fun e w'=>e=.returned (.tuple #[])∧Moved own w p (s.preT r) w':=by
 have M:Hid (PMem w p s own G):=m
 have hp:=m.lt
 have HSH:Hid s.Short:=hsh
 clear m hsh
 have hlt:=plOf_lt hl
 unfold lkV
 go_enter Try.func105,Try.ntmps105
 go_upto_region 1 with fail
 have B1:Hid (Below w.heap.size w (w.alloc (lkObj r))):=(Below.refl _ _).alloc (Nat.le_refl _) _
 have L1:Hid ((w.alloc (lkObj r)).heap[w.heap.size]?=some (.cells #[.int .i64 r.at_.1,.int .i64 r.at_.2,.int .i64 r.lo,.int .i64 r.hi,.bool r.wr] 148 (0,0))):=heap_alloc_new w _
 unfold lkObj at *
 generalize w.alloc _=W1 at *
 have hs1:w.heap.size < W1.heap.size:=(Array.getElem?_eq_some_iff.1 L1.out).1
 obtain ⟨c0,c1,c2,c3,c4⟩:=lk_cells L1.out
 have hpl:=place_nat r.at_.1 r.at_.2 W1 hl
 rw [show placeOf r.at_.1 r.at_.2=plOf r.at_ from rfl] at hpl
 have HPL:Hid (Calls _ _ _ _ _):=hpl
 clear hpl
 generalize hq0:plOf r.at_=q0 at *
 have HQ0:Hid (plOf r.at_=q0):=hq0
 clear hq0
 go_wp2_with fail
 refine HPL.out.mono ?_
 rintro e w2 ⟨rfl,hb2⟩
 have I0:Hid (Moved own W1 p (s.preTo r (q0+1)) w2):=by
  show Moved _ _ _ _ _
  rw [← HQ0.out,PS.preTo_start]; exact (M.out.below B1.out).went hb2
 have zi:(q0:Int) < 32:=by omega
 clear c0 c1 c2 c3 c4 HPL hb2
 go_wp2_with fail
 go_loopw [6] (fun i wr=>∃ b:Nat,q0 < b∧b≤32∧i=.int .i64 b∧Hid (Moved own W1 p (s.preTo r b) wr)) (fun i _=>32 - (intOf i).toNat)
 case atStart=>exact ⟨q0+1,by omega,by omega,by go_num,I0⟩
 case round =>
  obtain ⟨b,hb0,hb,rfl,I⟩:=hrel
  by_cases hlt2:b < 32
  ·have zb:(b:Int) < 32:=by omega
   have J0:Hid (Moved own W1 p ((s.preTo r b).setT b ((s.t b).preTo r 0)) wr):=by
    show Moved _ _ _ _ _
    have:=setT_id (s.preTo r b) b
    rw [PS.preTo_at] at this
    rw [show (s.t b).preTo r 0=s.t b from rfl,this]; exact I.out
   go_wp2_with fail
   go_loopw [26] (fun i wr=>∃ k:Nat,k≤4∧i=.int .i64 k∧Hid (Moved own W1 p ((s.preTo r b).setT b ((s.t b).preTo r k)) wr)) (fun i _=>4 - (intOf i).toNat)
   case atStart=>exact ⟨0,Nat.zero_le _,rfl,J0⟩
   case round =>
    obtain ⟨k,hk,rfl,J⟩:=hrel
    by_cases hlt3:k < 4
    ·have zk:(k:Int) < 4:=by omega
     obtain ⟨own2,G2,m2,cg2⟩:=J.out
     have L2:wr.heap[w.heap.size]?=_:=(cg2.block _ hs1 (M.out.off (Nat.le_refl _))).trans L1.out
     obtain ⟨c0,c1,c2,c3,c4⟩:=lk_cells L2
     have M2:Hid (PMem wr p ((s.preTo r b).setT b ((s.t b).preTo r k)) own2 G2):=m2
     have CG2:Hid (ChgQ own W1 wr own2):=cg2
     have hp2:=m2.lt
     clear m2 cg2 L2
     have kne:=kin_some wr
     have kx0:=kin_cell c0
     have kx1:=kin_cell c1
     have kx2:=kin_cell c2
     have kx3:=kin_cell c3
     have kx4:=kin_cell c4
     clear c0 c1 c2 c3 c4
     cases hs:(((s.t b).preTo r k).ses k).metB r
     ·have HM:Hid (((((s.preTo r b).setT b ((s.t b).preTo r k)).t b).ses k).metB r=false):=by show _=_; rw [setT_t]; exact hs
      have HE:Hid ((s.t b).preTo r (k+1)=(s.t b).preTo r k):=by show _=_; rw [Tr.preTo,hs]; rfl
      go_wp2_with fail
      refine wp_region_kin (by kernel_rfl) (by kernel_rfl) ?_
      repeat (first | go_big_quiet_step ((go_at_call 121; exact Calls.kin (sesMet_at (M2.out.below (Kin.h _)) hlt2 hlt3 HM.out))) | quiet_step ((go_at_call 121; exact Calls.kin (sesMet_at (M2.out.below (Kin.h _)) hlt2 hlt3 HM.out))))
      refine wpQuiet_nil ?_
      intro _ hw'
      obtain ⟨xq,hw''⟩:=hw'
      subst hw''
      have J':Hid (Moved own W1 p ((s.preTo r b).setT b ((s.t b).preTo r (k+1))) xq.w):=by
       show Moved _ _ _ _ _
       rw [HE.out]; exact J.out.below xq.h
      clear kx0 kx1 kx2 kx3 kx4 kne
      go_wp2
      go_roundw
      case rel=>exact ⟨k+1,by omega,by go_num,J'⟩
      case measure=>simp [intOf]; omega
     ·have HM:Hid (((((s.preTo r b).setT b ((s.t b).preTo r k)).t b).ses k).metB r=true):=by show _=_; rw [setT_t]; exact hs
      have HE:Hid ((s.t b).preTo r (k+1)=((s.t b).preTo r k).forceT k 1):=by show _=_; rw [Tr.preTo,hs]; rfl
      go_wp2_with fail
      refine wp_region_kin (by kernel_rfl) (by kernel_rfl) ?_
      repeat (first | go_big_quiet_step ((go_at_call 121; exact Calls.kin (sesMet_at (M2.out.below (Kin.h _)) hlt2 hlt3 HM.out))) | quiet_step ((go_at_call 121; exact Calls.kin (sesMet_at (M2.out.below (Kin.h _)) hlt2 hlt3 HM.out))))
      refine wpQuiet_nil ?_
      intro _ hw'
      obtain ⟨xq,hw''⟩:=hw'
      subst hw''
      clear kx0 kx1 kx2 kx3 kx4 kne
      go_wp2_with fail
      refine (force_is (q:=b) (n:=k) (why:=1) (M2.out.below xq.h) hlt2 hlt3 (by rw [setT_t]; exact Nat.le_trans (Tr.preTo_len _ _ _).1 (HSH.out b hlt2).1) (by rw [setT_t]; exact Nat.le_trans (Tr.preTo_len _ _ _).2 (HSH.out b hlt2).2)).mono ?_
      rintro e w5 ⟨rfl,hmv⟩
      rw [setT_t,setT_setT] at hmv
      have J':Hid (Moved own W1 p ((s.preTo r b).setT b ((s.t b).preTo r (k+1))) w5):=by
       show Moved _ _ _ _ _
       rw [HE.out]; exact Moved.trans (CG2.out.trans (ChgQ.of_below xq.h)) hmv
      clear hmv
      go_wp2
      go_roundw
      case rel=>exact ⟨k+1,by omega,by go_num,J'⟩
      case measure=>simp [intOf]; omega
    ·have e:k=4:=by omega
     subst e
     have I':Hid (Moved own W1 p (s.preTo r (b+1)) wr):=by
      show Moved _ _ _ _ _
      rw [← PS.preTo_succ s r (by rw [HQ0.out]; exact hb0)]; exact J.out
     go_wp2
     go_roundw
     case rel=>exact ⟨b+1,by omega,by omega,by go_num,I'⟩
     case measure=>simp [intOf]; omega
  ·have e:b=32:=by omega
   subst e
   go_wp2
   refine bodyPost_end (v:=.tuple #[]) (by simp [results,Try.results105,go_sem]) rfl ⟨rfl,?_⟩
   exact Moved.trans (ChgQ.of_below B1.out) I.out
theorem entryW {w:World} {a:Wh}:Hid (Below w.heap.size w ((w.alloc (whoObj a)).alloc ansObj))∧Hid (((w.alloc (whoObj a)).alloc ansObj).heap[w.heap.size]?=some (.cells #[.int .i64 a.1,.int .i64 a.2.1,.int .i64 a.2.2] 28 (0,0)))∧Hid (ansBlk ((w.alloc (whoObj a)).alloc ansObj) (w.heap.size+1) 0 0 (.slice none 0 0)):=by
 refine ⟨below2r,?_,?_⟩
 ·show _=_
  rw [heap_alloc_old (by simp)]; exact heap_alloc_new w _
 ·show _=_
  have:=heap_alloc_new (w.alloc (whoObj a)) ansObj
  rw [World.size_alloc] at this
  exact this
theorem who_cells {w:World} {b:Nat} {x y z:Int} (h:w.heap[b]?=some (.cells #[.int .i64 x,.int .i64 y,.int .i64 z] 28 (0,0))) :
  w.cell? ⟨b,0,none⟩=some (.int .i64 x)∧w.cell? ⟨b,1,none⟩=some (.int .i64 y)∧w.cell? ⟨b,2,none⟩=some (.int .i64 z):=by
 refine ⟨?_,?_,?_⟩
 all_goals rw [cell_of_row w b _ _ _ _ h]; rfl
structure ReqOk (q n:Nat) (x:Stp):Prop where
 who:x.who=whoOf q n
 key:0≤x.key∧x.key≤15
 lab:labB x.at_.1 x.at_.2=true
theorem leaveT_ses (t:Tr) (n:Nat):(t.leaveT n).ses n={ t.ses n with req:=stp0 }:=upd_same _ _ _
theorem leaveT_locks (s:PS) (q n:Nat):(((s.setT q ((s.t q).leaveT n)).t q).ses n).locks=((s.t q).ses n).locks:=by
 rw [setT_t,leaveT_ses]
theorem short_leave {s:PS} (h:s.Short) (q n:Nat) (r:Lk):((s.setT q ((s.t q).leaveT n)).addLock q n r).Short:=by
 intro q' hq'
 by_cases e:q'=q
 ·subst e
  unfold PS.addLock PS.setS
  rw [setT_t,setT_t]
  exact ⟨(h q' hq').1,Nat.le_trans (lsOff_len _ _) (h q' hq').2⟩
 ·have:((s.setT q ((s.t q).leaveT n)).addLock q n r).t q'=s.t q':=by
   unfold PS.addLock PS.setS PS.setT
   simp only [upd_ne _ _ e]
  rw [this]; exact h q' hq'
theorem infoLk:(Try.prog.info? 148).map (fun i=>(i.zero,i.size,i.bytes))=some (some (.agg #[.int .i64 0,.int .i64 0,.int .i64 0,.int .i64 0,.bool false]),5,40):=by kernel_rfl
theorem admit_is {w:World} {p q n:Nat} {a:Wh} {s:PS} {own:Own} {G:PG} (m:PMem w p s own G) (hq:q < 32) (hn:n < 4) (ha:a=whoOf q n) (hr:ReqOk q n ((s.t q).ses n).req) (hsh:s.Short) (hlk:((s.t q).ses n).locks.length≤32) :
  Calls Try.prog 82 #[.pointer (some ⟨p,0,none⟩),.agg #[.int .i64 a.1,.int .i64 a.2.1,.int .i64 a.2.2]] w (AQ own w p (s.admitT q n).1 (s.admitT q n).2):=by
 have M:Hid (PMem w p s own G):=m
 have hp:=m.lt
 have zn:(n:Int) < 4:=by omega
 have HSH:Hid s.Short:=hsh
 have HR:Hid (ReqOk q n ((s.t q).ses n).req):=hr
 have HNO:Hid (∀ k,w.heap.size≤k→own k=none):=fun k hk=>m.off hk
 clear m hsh hr
 obtain ⟨a0,a1,a2⟩:=a
 simp only [whoOf,Prod.mk.injEq] at ha
 obtain ⟨h0,h1,h2⟩:=ha
 subst h2
 have Ha:Hid ((a0,a1)=labOf q):=by show _=_; rw [h0,h1]
 have hlab:labB a0 a1=true:=by rw [h0,h1]; exact labOf_ok hq
 have hpl:plOf (a0,a1)=q:=by rw [Ha.out]; exact plOf_labOf hq
 clear h0 h1
 have HP:Hid (s.admitT q n=(s.lockT q n ((s.t q).ses n).req).grantT q n ((s.t q).ses n).req):=rfl
 generalize hx:((s.t q).ses n).req=x at *
 have HX:Hid (((s.t q).ses n).req=x):=hx
 clear hx
 go_enter Try.func82,Try.ntmps82
 go_upto_region 1 with fail
 obtain ⟨B1,L0,L1⟩:=entryW (w:=w) (a:=(a0,a1,(n:Int)))
 unfold whoObj ansObj at *
 simp only at *
 generalize (w.alloc _).alloc _=W1 at *
 have hs1:w.heap.size+1 < W1.heap.size:=(Array.getElem?_eq_some_iff.1 L1.out).1
 obtain ⟨r0,r1,r2⟩:=who_cells L0.out
 go_wp2_with fail
 refine (tier_is (a:=(a0,a1)) hlab hpl).mono ?_
 rintro e w2 ⟨rfl,hb2⟩
 have B2:Hid (Below w.heap.size w w2):=B1.out.trans (hb2.mono B1.out.size)
 have L02:Hid (w2.heap[w.heap.size]?=_):=(hb2.block _ (by omega)).trans L0.out
 have L12:Hid (ansBlk w2 (w.heap.size+1) 0 0 (.slice none 0 0)):=(hb2.block _ (by omega)).trans L1.out
 have hs2:w.heap.size+1 < w2.heap.size:=Nat.lt_of_lt_of_le hs1 hb2.size
 obtain ⟨s0,s1,s2⟩:=who_cells L02.out
 clear r0 r1 r2 L0 L1 hb2 B1
 go_wp2_with fail
 refine (leave_is (M.out.below B2.out) hq hn (HSH.out q hq).2).mono ?_
 rw [HX.out]
 rintro e w3 ⟨rfl,own3,G3,m3,cg3⟩
 have L03:Hid (w3.heap[w.heap.size]?=_):=(cg3.block _ (by omega) (HNO.out _ (Nat.le_refl _))).trans L02.out
 have L13:Hid (ansBlk w3 (w.heap.size+1) 0 0 (.slice none 0 0)):=(cg3.block _ (by omega) (HNO.out _ (by omega))).trans L12.out
 have N3:Hid (own3 w.heap.size=none∧own3 (w.heap.size+1)=none):=⟨cg3.off (by omega) (HNO.out _ (Nat.le_refl _)),cg3.off (by omega) (HNO.out _ (by omega))⟩
 have M3:Hid (PMem w3 p (s.setT q ((s.t q).leaveT n)) own3 G3):=m3
 have CG3:Hid (ChgQ own w w3 own3):=(ChgQ.of_below B2.out).trans cg3
 have hs3:w.heap.size+1 < w3.heap.size:=Nat.lt_of_lt_of_le hs2 cg3.size
 clear s0 s1 s2 L02 L12 m3 cg3 B2
 have L4:Hid ((w3.alloc (stpObj x)).heap[w3.heap.size]?=some (.cells (stepC x).toArray 30 (0,0))):=heap_alloc_new w3 _
 have B4:Hid (Below w3.heap.size w3 (w3.alloc (stpObj x))):=(Below.refl _ _).alloc (Nat.le_refl _) _
 unfold stepV
 go_upto_region 3 with fail
 generalize w3.alloc (.cells #[.int .i64 x.who.1,.int .i64 x.who.2.1,.int .i64 x.who.2.2,.int .i64 x.op,.int .i64 x.at_.1,.int .i64 x.at_.2,.int .i64 x.key,.int .i64 x.to_,.int .i64 x.value] 30)=W4 at *
 have hs4:w3.heap.size < W4.heap.size:=(Array.getElem?_eq_some_iff.1 L4.out).1
 obtain ⟨t0,t1,t2,t3,t4,t5,t6,t7,t8⟩:=stp_cells (loc_stp L4.out)
 simp only [Nat.zero_add] at t0 t1 t2 t3 t4 t5 t6 t7 t8
 go_wp2_with fail
 refine (asked_any x _).mono ?_
 rintro e w5 ⟨rfl,hb5⟩
 have B5:Hid (Below w3.heap.size w3 w5):=B4.out.trans (hb5.mono B4.out.size)
 have L5:Hid (w5.heap[w3.heap.size]?=some (.cells (stepC x).toArray 30 (0,0))):=(hb5.block _ hs4).trans L4.out
 have hs5:w3.heap.size < w5.heap.size:=Nat.lt_of_lt_of_le hs4 hb5.size
 have HL:Hid (s.lockT q n x=if (lkOf x).wr then ((s.setT q ((s.t q).leaveT n)).addLock q n (lkOf x)).preT (lkOf x) else (s.setT q ((s.t q).leaveT n)).addLock q n (lkOf x)):=rfl
 have HLA:Hid (labB (lkOf x).at_.1 (lkOf x).at_.2=true):=HR.out.lab
 clear t0 t1 t2 t3 t4 t5 t6 t7 t8 hb5 L4 B4
 generalize lkOf x=r at *
 unfold lkV
 have B6:Hid (Below w3.heap.size w3 (w5.alloc (lkObj r))):=B5.out.alloc B5.out.size _
 have L6:Hid ((w5.alloc (lkObj r)).heap[w5.heap.size]?=some (.cells #[.int .i64 r.at_.1,.int .i64 r.at_.2,.int .i64 r.lo,.int .i64 r.hi,.bool r.wr] 148 (0,0))):=heap_alloc_new w5 _
 have X6:Hid ((w5.alloc (lkObj r)).heap[w3.heap.size]?=some (.cells (stepC x).toArray 30 (0,0))):=(heap_alloc_old hs5).trans L5.out
 unfold lkObj at *
 go_upto_region 4 with fail
 generalize w5.alloc _=W6 at *
 have hs6:w5.heap.size < W6.heap.size:=(Array.getElem?_eq_some_iff.1 L6.out).1
 have L06:Hid (W6.heap[w.heap.size]?=_):=(B6.out.block _ (by omega)).trans L03.out
 have L16:Hid (ansBlk W6 (w.heap.size+1) 0 0 (.slice none 0 0)):=(B6.out.block _ (by omega)).trans L13.out
 obtain ⟨c0,c1,c2⟩:=who_cells L06.out
 have kne:=kin_some W6
 have kx2:=kin_cell c2
 refine wp_region_kin (by kernel_rfl) (by kernel_rfl) ?_
 repeat (first | go_big_quiet_step (fail) | quiet_step (fail))
 refine wpQuiet_nil ?_
 intro _ hw'
 obtain ⟨xq,hw''⟩:=hw'
 subst hw''
 have B7:Hid (Below w3.heap.size w3 xq.w):=B6.out.trans (xq.h.mono B6.out.size)
 have L7:Hid (xq.w.heap[w5.heap.size]?=_):=(xq.h.block _ hs6).trans L6.out
 have X7:Hid (xq.w.heap[w3.heap.size]?=_):=(xq.h.block _ (by omega)).trans X6.out
 have L17:Hid (ansBlk xq.w (w.heap.size+1) 0 0 (.slice none 0 0)):=(xq.h.block _ (by omega)).trans L16.out
 have hs7:w5.heap.size < xq.w.heap.size:=Nat.lt_of_lt_of_le hs6 xq.h.size
 clear kne kx2 c0 c1 c2 L06 L16 X6 L6 B6 L5 B5
 generalize xq.w=w7 at *
 have M7:Hid (PMem w7 p (s.setT q ((s.t q).leaveT n)) own3 G3):=M3.out.below B7.out
 have CG7:Hid (ChgQ own w w7 own3):=CG3.out.trans (ChgQ.of_below B7.out)
 have hrow:=M7.out.lockR q hq n hn
 obtain ⟨ao,cap,hv,hmax⟩:=hrow.lens len_lkC
 have hc:=ses_locks (M7.out.sesAt hq hn)
 have hfz:=M7.out.froz (tO q+32+n*79)
 have HV:Hid ((G3.s q n).1=_):=hv
 rw [hv] at hc hrow
 have HROW:Hid (Row _ _ _ _ _ _ _ _):=hrow
 have hll:(((s.setT q ((s.t q).leaveT n)).t q).ses n).locks.length≤32:=by rw [leaveT_locks]; exact hlk
 have hp7:=M7.out.lt
 have N7:Hid (own3 w5.heap.size=none∧own3 w3.heap.size=none):=⟨M3.out.off (by have:=CG3.out.size; omega),M3.out.off (Nat.le_refl _)⟩
 clear hv hrow hmax
 obtain ⟨i0,hi0,hz0,hs0,hb0⟩:=info_all infoLk
 obtain ⟨d0,d1,d2,d3,d4⟩:=lk_cells L7.out
 generalize hse:((s.setT q ((s.t q).leaveT n)).t q).ses n=se at *
 have HSE:Hid (((s.setT q ((s.t q).leaveT n)).t q).ses n=se):=hse
 clear hse
 go_upto_region 5 with fail
 have hS:(fun W:World=>W.cell? ⟨p,tO q+32+n*79,none⟩=some (.slice ao se.locks.length cap)∧W.cell? ⟨w5.heap.size,0,none⟩=some (.int .i64 r.at_.1)∧W.cell? ⟨w5.heap.size,1,none⟩=some (.int .i64 r.at_.2)∧W.cell? ⟨w5.heap.size,2,none⟩=some (.int .i64 r.lo)∧W.cell? ⟨w5.heap.size,3,none⟩=some (.int .i64 r.hi)∧W.cell? ⟨w5.heap.size,4,none⟩=some (.bool r.wr)) w7.drew:=⟨hc,d0,d1,d2,d3,d4⟩
 refine wp_region_Z (z:=10) (S:=fun W=>W.cell? ⟨p,tO q+32+n*79,none⟩=some (.slice ao se.locks.length cap)∧W.cell? ⟨w5.heap.size,0,none⟩=some (.int .i64 r.at_.1)∧W.cell? ⟨w5.heap.size,1,none⟩=some (.int .i64 r.at_.2)∧W.cell? ⟨w5.heap.size,2,none⟩=some (.int .i64 r.lo)∧W.cell? ⟨w5.heap.size,3,none⟩=some (.int .i64 r.hi)∧W.cell? ⟨w5.heap.size,4,none⟩=some (.bool r.wr)) (by kernel_rfl) ?_
 refine zC 9 (i:=0) (v:=?v1) (by decide +kernel) rfl (fun _ _ _ h=>h) hS (.inl ⟨by rfl,?y1⟩) ?_
 case y1=>(rintro wz ⟨zs0,zs1,zs2,zs3,zs4,zs5⟩; go_simp<;>with_reducible rfl)
 simp only [Act.put,z1,z2,z4]
 refine zC 9 (i:=1) (v:=?v2) (by decide +kernel) rfl (fun _ _ _ h=>h) hS (.inl ⟨by rfl,?y2⟩) ?_
 case y2=>(rintro wz ⟨zs0,zs1,zs2,zs3,zs4,zs5⟩; go_simp<;>with_reducible rfl)
 simp only [Act.put,z1,z2,z3,z4,z5,z6]
 refine zC 9 (i:=2) (v:=?v3) (by decide +kernel) rfl (fun _ _ _ h=>h) hS (.inl ⟨by rfl,?y3⟩) ?_
 case y3=>(rintro wz ⟨zs0,zs1,zs2,zs3,zs4,zs5⟩; go_simp<;>with_reducible rfl)
 simp only [Act.put,z1,z2,z3,z4,z5,z6]
 refine zC 9 (i:=3) (v:=?v4) (by decide +kernel) rfl (fun _ _ _ h=>h) hS (.inl ⟨by rfl,?y4⟩) ?_
 case y4=>(rintro wz ⟨zs0,zs1,zs2,zs3,zs4,zs5⟩; go_simp<;>with_reducible rfl)
 simp only [Act.put,z1,z2,z3,z4,z5,z6]
 refine zC 9 (i:=4) (v:=?v5) (by decide +kernel) rfl (fun _ _ _ h=>h) hS (.inl ⟨by rfl,?y5⟩) ?_
 case y5=>(rintro wz ⟨zs0,zs1,zs2,zs3,zs4,zs5⟩; go_simp<;>with_reducible rfl)
 simp only [Act.put,z1,z2,z3,z4,z5,z6]
 refine zC 9 (i:=5) (v:=?v6) (by decide +kernel) rfl (fun _ _ _ h=>h) hS (.inl ⟨by rfl,?y6⟩) ?_
 case y6=>(rintro wz ⟨zs0,zs1,zs2,zs3,zs4,zs5⟩; go_simp<;>with_reducible rfl)
 simp only [Act.put,z1,z2,z3,z4,z5,z6]
 have nlt:∀ b,b < w7.heap.size→∀ j v,w7.cell? ⟨b,j,none⟩=some v→(w7.alloc (.cells #[.int .i64 r.at_.1,.int .i64 r.at_.2,.int .i64 r.lo,.int .i64 r.hi,.bool r.wr] 148)).drew.cell? ⟨b,j,none⟩=some v:=fun b hb j v h=>by
  rw [World.cell?_drew,World.cell?_alloc_lt _ _ _ hb]; exact h
 refine wpAnyZ_one (i:=6) (by decide +kernel) rfl (fun K hK=>?_)
 go_simp
 refine hK _ _ (fun _=>⟨nlt _ hp7 _ _ hc,nlt _ hs7 _ _ d0,nlt _ hs7 _ _ d1,nlt _ hs7 _ _ d2,nlt _ hs7 _ _ d3,nlt _ hs7 _ _ d4⟩) ?_
 clear hK
 refine wpAnyZ_one (i:=7) (by decide +kernel) rfl (fun K hK=>?_)
 refine step_append_lies _ (by rfl) _ _ _ (by rfl) 0 148 i0 _ 5 40 Try.underlying116 hi0 hz0 hs0 hb0 rfl (by omega) (.slice ao se.locks.length cap) se.locks.length (se.locks.flatMap lkC) (by rfl) ((HROW.out.1.alloc _).drew)
  ⟨w7.heap.size,0,none⟩ 1 1 [.int .i64 r.at_.1,.int .i64 r.at_.2,.int .i64 r.lo,.int .i64 r.hi,.bool r.wr] (by rfl) (by rfl) (World.news_of_block (cs:=#[.int .i64 r.at_.1,.int .i64 r.at_.2,.int .i64 r.lo,.int .i64 r.hi,.bool r.wr]) (t:=148) (fr:=(0,0)) (heap_alloc_new w7 _)) (by simp [Value.oneCell'])
  (by omega) (by unfold maxLen; omega) (by omega) (Nat.zero_le _) (w7.heap.size+1) (by simp) ?_
 intro gg cap' w8 hown1 hgrow hat hlt1
 simp only [Act.put,List.getElem_toArray,List.getElem_cons_zero,List.getElem_cons_succ,List.setIfInBounds_toArray,List.set_cons_zero,List.set_cons_succ]
 have nr:(Value.slice ao se.locks.length cap).ownBlock≠some p:=fun e=>by
  have:=HROW.out.2 p e; rw [M7.out.tag] at this; simp [rootTag,lockTag] at this
 have nx:(Value.slice ao se.locks.length cap).ownBlock≠some w5.heap.size:=fun e=>by
  have:=HROW.out.2 _ e; rw [N7.out.1] at this; cases this
 have q4:=hgrow.cell (nlt _ hp7 _ _ hc) (Ne.symm nr)
 have y0:=hgrow.cell (nlt _ hs7 _ _ d0) (Ne.symm nx)
 have y1:=hgrow.cell (nlt _ hs7 _ _ d1) (Ne.symm nx)
 have y2:=hgrow.cell (nlt _ hs7 _ _ d2) (Ne.symm nx)
 have y3:=hgrow.cell (nlt _ hs7 _ _ d3) (Ne.symm nx)
 have y4:=hgrow.cell (nlt _ hs7 _ _ d4) (Ne.symm nx)
 have fo:w8.frozen? ⟨p,tO q+32+n*79,none⟩=false:=by
  rw [World.frozen?_of_block (hgrow.block p (by simp; omega) (Ne.symm nr))]
  rw [World.frozen?_drew,World.frozen?_alloc_past _ _ _ (by omega)]; exact hfz
 refine hK _ _ (fun _=>⟨q4,y0,y1,y2,y3,y4⟩) ?_
 clear hK
 refine wpAnyZ_one (i:=8) (by decide +kernel) rfl (fun K hK=>?_)
 go_simp
 refine hK _ _ (fun _=>⟨q4,y0,y1,y2,y3,y4⟩) ?_
 clear hK
 refine wpAnyZ_one (i:=9) (by decide +kernel) rfl (fun K hK=>?_)
 go_simp
 refine hK _ _ (fun _=>⟨q4,y0,y1,y2,y3,y4⟩) ?_
 clear hK
 refine wpAnyZ_one (i:=10) (by decide +kernel) rfl (fun K hK=>?_)
 go_simp
 refine hK _ _ (fun h=>absurd rfl h) ?_
 clear hK
 refine wpAnyZ_done (by decide +kernel) ?_ _
 rw [← HV.out] at hgrow hat
 rw [← HSE.out] at hown1
 obtain ⟨m9,cg9⟩:=M7.out.appLock hq (W:=(w7.alloc (.cells #[.int .i64 r.at_.1,.int .i64 r.at_.2,.int .i64 r.lo,.int .i64 r.hi,.bool r.wr] 148)).drew) (x:=r) (H:=w7.heap.size+1) (fun k hk=>Below.heap_alloc _ _ _ hk) (by simp) rfl rfl rfl hn hgrow hown1 hat (by omega) hlt1
 rw [HSE.out] at m9 cg9
 have M9:Hid (PMem (w8.setCell ⟨p,tO q+32+n*79,none⟩ (.slice (some ⟨gg,0,none⟩) (se.locks.length+1) cap')) p ((s.setT q ((s.t q).leaveT n)).addLock q n r) _ _):=m9
 have CG9:Hid (ChgQ own w (w8.setCell ⟨p,tO q+32+n*79,none⟩ (.slice (some ⟨gg,0,none⟩) (se.locks.length+1) cap')) _):=CG7.out.trans cg9
 have L9:Hid ((w8.setCell ⟨p,tO q+32+n*79,none⟩ (.slice (some ⟨gg,0,none⟩) (se.locks.length+1) cap')).heap[w5.heap.size]?=_):=(cg9.block _ hs7 N7.out.1).trans L7.out
 have X9:Hid ((w8.setCell ⟨p,tO q+32+n*79,none⟩ (.slice (some ⟨gg,0,none⟩) (se.locks.length+1) cap')).heap[w3.heap.size]?=_):=(cg9.block _ (by omega) N7.out.2).trans X7.out
 have A9:Hid (ansBlk (w8.setCell ⟨p,tO q+32+n*79,none⟩ (.slice (some ⟨gg,0,none⟩) (se.locks.length+1) cap')) (w.heap.size+1) 0 0 (.slice none 0 0)):=(cg9.block _ (by omega) N3.out.2).trans L17.out
 have N9:Hid (ownAdd own3 gg (lockTag q n) (w.heap.size+1)=none∧ownAdd own3 gg (lockTag q n) w3.heap.size=none):=⟨cg9.off (by omega) N3.out.2,cg9.off (by omega) N7.out.2⟩
 clear m9 cg9 hown1 hgrow hat q4 y0 y1 y2 y3 y4 fo d0 d1 d2 d3 d4 hc hfz nlt hS
 generalize w8.setCell ⟨p,tO q+32+n*79,none⟩ (.slice (some ⟨gg,0,none⟩) (se.locks.length+1) cap')=W9 at *
 generalize ownAdd own3 gg (lockTag q n)=own9 at *
 generalize G3.setS q n (.slice (some ⟨gg,0,none⟩) (se.locks.length+1) cap',(G3.s q n).2)=G9 at *
 have hs9:w5.heap.size < W9.heap.size:=(Array.getElem?_eq_some_iff.1 L9.out).1
 obtain ⟨d0,d1,d2,d3,d4⟩:=lk_cells L9.out
 obtain ⟨t0,t1,t2,t3,t4,t5,t6,t7,t8⟩:=stp_cells (loc_stp X9.out)
 simp only [Nat.zero_add] at t0 t1 t2 t3 t4 t5 t6 t7 t8
 have HSH9:Hid ((s.setT q ((s.t q).leaveT n)).addLock q n r).Short:=short_leave HSH.out q n r
 cases hw:r.wr
 ·rw [hw] at d4
  have HL':Hid (s.lockT q n x=(s.setT q ((s.t q).leaveT n)).addLock q n r):=by have:=HL.out; rw [if_neg (by rw [hw]; simp)] at this; exact this
  have MB:Hid (PMem W9 p ((s.setT q ((s.t q).leaveT n)).addLock q n r) own9 G9):=M9
  have CGB:Hid (ChgQ own w W9 own9):=CG9
  have NB:Hid (own9 (w.heap.size+1)=none):=N9.out.1
  have LB:Hid (ansBlk W9 (w.heap.size+1) 0 0 (.slice none 0 0)):=A9
  go_wp2_with fail
  refine (grant_is (MB.out) hq hn HR.out.who HR.out.key HR.out.lab).mono ?_
  intro e wC haq
  obtain ⟨ao2,cap2,rfl,b0,b1,b2⟩:=aq_chain CGB.out (b:=w.heap.size+1) (by omega) NB.out LB.out haq
  obtain ⟨e0,e1,e2,f0,f1,f2⟩:=ans_cells b0
  have A1:Hid (ansBlk _ _ _ _ _):=b1
  have A2:Hid (AQ _ _ _ _ _ _ _):=b2
  clear b0 b1 b2 haq
  unfold ansV
  go_wp2
  refine ret_ans Try.results82 rfl A1.out rfl ?_
  rw [HP.out,HL'.out]; exact A2.out
 ·have HL':Hid (s.lockT q n x=((s.setT q ((s.t q).leaveT n)).addLock q n r).preT r):=by have:=HL.out; rw [if_pos hw] at this; exact this
  rw [hw] at d4
  have HPR:Hid (Calls Try.prog 105 #[.pointer (some ⟨p,0,none⟩),.agg #[.int .i64 r.at_.1,.int .i64 r.at_.2,.int .i64 r.lo,.int .i64 r.hi,.bool true]] W9 fun e w'=>e=.returned (.tuple #[])∧Moved own9 W9 p (((s.setT q ((s.t q).leaveT n)).addLock q n r).preT r) w'):=by
   have:=preempt_is M9.out HLA.out HSH9.out
   unfold lkV at this
   rw [hw] at this
   exact this
  go_wp2_with fail
  refine HPR.out.mono ?_
  rintro e wB ⟨rfl,ownB,GB,mB,cgB⟩
  have XB:Hid (wB.heap[w3.heap.size]?=_):=(cgB.block _ (by omega) N9.out.2).trans X9.out
  have LB:Hid (ansBlk wB (w.heap.size+1) 0 0 (.slice none 0 0)):=(cgB.block _ (by omega) N9.out.1).trans A9.out
  have NB:Hid (ownB (w.heap.size+1)=none):=cgB.off (by omega) N9.out.1
  have MB:Hid (PMem wB p (((s.setT q ((s.t q).leaveT n)).addLock q n r).preT r) ownB GB):=mB
  have CGB:Hid (ChgQ own w wB ownB):=CG9.out.trans cgB
  clear t0 t1 t2 t3 t4 t5 t6 t7 t8 d0 d1 d2 d3 d4 HPR mB cgB
  obtain ⟨t0,t1,t2,t3,t4,t5,t6,t7,t8⟩:=stp_cells (loc_stp XB.out)
  simp only [Nat.zero_add] at t0 t1 t2 t3 t4 t5 t6 t7 t8
  have hsB:w3.heap.size < wB.heap.size:=(Array.getElem?_eq_some_iff.1 XB.out).1
  go_wp2_with fail
  refine (grant_is (MB.out) hq hn HR.out.who HR.out.key HR.out.lab).mono ?_
  intro e wC haq
  obtain ⟨ao2,cap2,rfl,b0,b1,b2⟩:=aq_chain CGB.out (b:=w.heap.size+1) (by omega) NB.out LB.out haq
  obtain ⟨e0,e1,e2,f0,f1,f2⟩:=ans_cells b0
  have A1:Hid (ansBlk _ _ _ _ _):=b1
  have A2:Hid (AQ _ _ _ _ _ _ _):=b2
  clear b0 b1 b2 haq
  unfold ansV
  go_wp2
  refine ret_ans Try.results82 rfl A1.out rfl ?_
  rw [HP.out,HL'.out]; exact A2.out
end Go.Proofs.Ytpbcplfpjcacfaa
