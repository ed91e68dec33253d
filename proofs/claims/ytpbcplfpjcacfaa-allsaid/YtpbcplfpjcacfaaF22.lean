import Derived.Test.YtpbcplfpjcacfaaF15
namespace Go.Proofs.Ytpbcplfpjcacfaa
open Go.RowKit
set_option maxRecDepth 100000
set_option maxHeartbeats 8000000
theorem swap_keep2 {own:Own} {v:Value} {t x:Tag} {k:Nat} (hv:∀ b,v.ownBlock=some b→own b=none) (h:own k=some x) (hx:x≠t):own.swap v t k=some x:=by
 unfold Own.swap
 rw [if_neg (fun e=>by rw [hv k e] at h; cases h),if_neg (fun e=>hx (Option.some.inj (h.symm.trans e))),h]
theorem PMem.setOut {w w0:World} {p q n:Nat} {s:PS} {own own0:Own} {G:PG} (m:PMem w p s own G) (hq:q < 32) (hn:n < 4) {a:Ans} {v:Value} (hrow:w.ownsRow 0 94 2 v a.items.length (itemsV a.items))
  (cg:ChgQ own0 w0 w own) (hv:∀ b,v.ownBlock=some b→own b=none∧((own0 b≠none∧∀ x,own0 b≠some (5,x))∨w0.heap.size≤b)) :
  PMem (w.setCells p (tO q+32+n*79+75) (outC a v)) p (s.setS q n { (s.t q).ses n with out:=a }) (own.swap v (outTag q n)) (G.setS q n ((G.s q n).1,v)) ∧
  ChgQ own0 w0 (w.setCells p (tO q+32+n*79+75) (outC a v)) (own.swap v (outTag q n)):=by
 obtain ⟨A,Z,e1,e2,e3⟩:=sesC_out ((s.t q).ses n) (G.s q n) a v
 have hvn:∀ b,v.ownBlock=some b→own b=none:=fun b hb=>(hv b hb).1
 obtain ⟨C,hC,hCz⟩:=m.root
 obtain ⟨C',hC',hCz'⟩:=setCells_root (outC a v) (sO q n+75) w C hC
 have hsame:∀ k,k≠p→(w.setCells p (sO q n+75) (outC a v)).heap[k]?=w.heap[k]?:=fun k hk=>setCells_other _ _ _ _ hk
 have hkb:=World.keptBut_setCells p (may:=fun _=>True) (outC a v) (sO q n+75) w (fun _ _=>trivial)
 have hcell:∀ o,(o < sO q n∨sO q n+79≤o)→(w.setCells p (sO q n+75) (outC a v)).cell? ⟨p,o,none⟩=w.cell? ⟨p,o,none⟩:=fun o ho =>
  World.cell?_setCells_out p (outC a v) (sO q n+75) w ⟨p,o,none⟩ (fun _ _=>by show o < sO q n+75∨sO q n+75+3≤o; omega)
 have hth:w.there p (sO q n+75) (outC a v).length:=m.there (by show sO q n+75+3≤_; unfold sO; omega)
 have hne:∀ k t,own k=some t→t≠rootTag→k≠p:=fun k t hk ht e=>by
  rw [e,m.tag] at hk; exact ht (Option.some.inj hk).symm
 have hvp:∀ b,v.ownBlock=some b→b≠p:=fun b hb e=>by
  have:=hvn b hb; rw [e,m.tag] at this; cases this
 have h:=m.setSes hq hn { (s.t q).ses n with out:=a } ((G.s q n).1,v) (w1:=w.setCells p (sO q n+75) (outC a v)) (own':=own.swap v (outTag q n))
  (fun k t hk _ h2=>⟨swap_keep2 hvn hk h2,fun ht=>hsame k (hne k t hk ht)⟩) ⟨C',hC',by omega⟩ (rangeAt_splice (m.ses q hq n hn) e1 e2 e3 rfl hth) hcell
  ((m.lockR q hq n hn).frame (fun k hk=>hsame k (hne k _ hk (by intro c; simp [lockTag,rootTag] at c))) (fun k hk=>swap_keep2 hvn hk (by intro c; simp [lockTag,outTag] at c)))
  ⟨ownsRow_frame hrow (fun b hb=>hsame b (hvp b hb)),fun b hb=>by unfold Own.swap; rw [if_pos hb]⟩
  (fun k hk=>by
   rw [setCells_size]
   rcases swap_sub hk with h | h
   ·exact m.old k h
   ·exact ownsRow_lt hrow k h)
 refine ⟨h,?_⟩
 have hp0:∀ k,k < w0.heap.size→(own0 k=none∨∃ x,own0 k=some (5,x))→k≠p:=fun k hk ho e=>by
  rcases ho with ho | ⟨x,ho⟩
  ·have:=cg.off hk ho; rw [e,m.tag] at this; cases this
  ·rcases (cg.keep k x hk ho).2 with h4 | h4
   ·rw [e,m.tag] at h4; cases h4
   ·rw [ho,e,m.tag] at h4; simp [rootTag] at h4
 refine ⟨hkb.1.trans cg.os,(setCells_tape _ _ _).trans cg.tape,hkb.2.1.trans cg.output,Nat.le_trans cg.size (by rw [setCells_size]; exact Nat.le_refl _),fun k hk ho=>(hsame k (hp0 k hk (.inl ho))).trans (cg.block k hk ho),fun k hk=>?_,fun k x hk hx=>⟨(hsame k (hp0 k hk (.inr ⟨x,hx⟩))).trans (cg.keep k x hk hx).1,?_⟩⟩
 ·rcases swap_sub hk with h | h
  ·exact cg.fresh k h
  ·rcases (hv k h).2 with h3 | h3
   ·exact .inl h3.1
   ·exact .inr h3
 ·have hnv:v.ownBlock≠some k:=fun e=>by
   rcases (hv k e).2 with h3 | h3
   ·exact h3.2 x hx
   ·omega
  unfold Own.swap
  rw [if_neg hnv]
  rcases (cg.keep k x hk hx).2 with h4 | h4
  ·left; rw [h4]; simp
  ·right
   rw [h4,hx,if_neg (by simp [outTag])]
theorem out_one (a:Ans) (ao:Option Addr) (n cap:Nat):(outC a (.slice ao n cap)).toArray.all (·.oneCell')=true:=all_oneCell_toArray (by intro v hv; simp [outC] at hv; rcases hv with rfl | rfl | rfl<;>rfl)
theorem queRow_at {w:World} {p q:Nat} {s:PS} {own:Own} {G:PG} (m:PMem w p s own G) (hq:q < 32):∃ ao cap,G.q q=.slice ao (s.t q).queue.length cap∧∀ k (n:Nat),(s.t q).queue[k]?=some n→∃ b,ao=some ⟨b,0,none⟩∧own b=some (queTag q)∧b < w.heap.size∧w.cell? ⟨b,k,none⟩=some (.int .i64 (n:Int)):=by
 obtain ⟨ao,cap,h1,_,h3⟩:=(m.queR q hq).form len_natC
 refine ⟨ao,cap,h1,fun k n hk=>?_⟩
 obtain ⟨b,e1,e2,e3,e4,_⟩:=h3 k n hk
 refine ⟨b,e1,e2,e3,?_⟩
 have:=e4 0 _ rfl
 simpa using this
theorem settleQ_is {w:World} {p q a:Nat} {s:PS} {own:Own} {G:PG} (m:PMem w p s own G) (hq:q < 32) (F:s.Fit) :
  Calls Try.prog 106 #[.pointer (some ⟨p,0,none⟩),.int .i64 q,.int .i64 a] w fun e w'=>e=.returned (.tuple #[])∧Moved own w p (s.settleQ q a) w':=by
 have M:Hid (PMem w p s own G):=m
 have HF:Hid s.Fit:=F
 have hp:=m.lt
 have zq:(q:Int) < 32:=by omega
 obtain ⟨ao,cap,hv,hel⟩:=queRow_at m hq
 have hc:=m.queC hq
 rw [hv] at hc
 have hq4:=(F.short q hq).2
 have HEL:Hid (∀ k (n:Nat),(s.t q).queue[k]?=some n→∃ b,ao=some ⟨b,0,none⟩∧own b=some (queTag q)∧b < w.heap.size∧w.cell? ⟨b,k,none⟩=some (.int .i64 (n:Int))):=hel
 have HN:Hid (s.t q).queue.Nodup:=(F.tr q hq).queN
 have HQL:Hid (∀ n∈(s.t q).queue,n < 4):=(F.tr q hq).queL
 have HFk:Hid (∀ k,(PS.settleL q a s ((s.t q).queue.take k)).Fit):=fun k=>PS.Fit.settleL hq _ s F ((F.tr q hq).queN.sublist (List.take_sublist _ _)) (fun n hn=>List.mem_of_mem_take hn)
 have HIn:Hid (∀ k n,(s.t q).queue[k]?=some n→n∈((PS.settleL q a s ((s.t q).queue.take k)).t q).queue):=fun k n hk=>by
  refine settleL_ahead hq ((s.t q).queue.take k) ((s.t q).queue.drop k) s F (by rw [List.take_append_drop]; exact (F.tr q hq).queN) (fun m hm=>by rw [List.take_append_drop] at hm; exact hm) n ?_
  rw [drop_at hk]; exact List.mem_cons_self
 have HSt:Hid (∀ k n,(s.t q).queue[k]?=some n→PS.settleL q a s ((s.t q).queue.take (k+1))=(PS.settleL q a s ((s.t q).queue.take k)).settle1 q a n):=fun k n hk=>by
  obtain ⟨h1,h2⟩:=List.getElem?_eq_some_iff.1 hk
  rw [List.take_succ_eq_append_getElem h1,h2,settleL_snoc]
 have HEnd:Hid (PS.settleL q a s ((s.t q).queue.take (s.t q).queue.length)=s.settleQ q a):=by show _=_; rw [List.take_length]; rfl
 have I0:Hid (Moved own w p (PS.settleL q a s ((s.t q).queue.take 0)) w):=m.went (Below.refl _ _)
 clear m F hv hel
 generalize (s.t q).queue=l at *
 go_enter Try.func106,Try.ntmps106
 go_upto_region 1 with fail
 rw [show 3+q*350=tO q from rfl]
 go_wp2_with fail
 go_loopw [25] (fun i wr=>∃ k:Nat,k≤l.length∧i=.int .i64 k∧Hid (Moved own w p (PS.settleL q a s (l.take k)) wr)) (fun i _=>l.length - (intOf i).toNat)
 case atStart=>exact ⟨0,Nat.zero_le _,rfl,I0⟩
 case round =>
  obtain ⟨k,hk,rfl,I⟩:=hrel
  by_cases hlt:k < l.length
  ·have gk:=List.getElem?_eq_getElem hlt
   generalize l[k]=n at gk
   have Gk:Hid (l[k]?=some n):=gk
   have hn:n < 4:=HQL.out n (List.mem_of_getElem? gk)
   clear gk
   have zk:(k:Int) < (l.length:Int):=by omega
   have zn:(n:Int) < 4:=by omega
   obtain ⟨bt,rfl,hbo,hbt,hcell⟩:=HEL.out k n Gk.out
   obtain ⟨own2,G2,m2,cg2⟩:=I.out
   have y0:wr.cell? ⟨bt,k,none⟩=some (.int .i64 (n:Int)):=by rw [cell_of_same (cg2.keep bt _ hbt hbo).1]; exact hcell
   have HFS:=HFk.out k
   have HInS:=HIn.out k n Gk.out
   have HStS:=HSt.out k n Gk.out
   clear hcell
   generalize PS.settleL q a s (l.take k)=S at *
   have hReq:ReqFit q n ((S.t q).ses n).req:=(HFS.tr q hq).req n HInS
   have hreq:=ses_req (m2.sesAt hq hn)
   have M2:Hid (PMem wr p S own2 G2):=m2
   have CG2:Hid (ChgQ own w wr own2):=cg2
   have FSt:Hid S.Fit:=HFS
   have INS:Hid (n∈(S.t q).queue):=HInS
   have STS:Hid (PS.settleL q a s (l.take (k+1))=S.settle1 q a n):=HStS
   have RQ:Hid (ReqFit q n ((S.t q).ses n).req):=hReq
   have hp2:=m2.lt
   clear HFS HInS HStS hReq m2 cg2
   generalize hx:((S.t q).ses n).req=x at *
   have HX:Hid (((S.t q).ses n).req=x):=hx
   clear hx
   obtain ⟨t0,t1,t2,t3,t4,t5,t6,t7,t8⟩:=stp_cells hreq
   clear hreq
   have L3:Hid ((wr.alloc (stpObj x)).heap[wr.heap.size]?=some (.cells (stepC x).toArray 30 (0,0))):=heap_alloc_new wr _
   have B3:Hid (Below wr.heap.size wr (wr.alloc (stpObj x))):=(Below.refl _ _).alloc (Nat.le_refl _) _
   unfold stpObj at *
   go_upto_region 6 with fail
   generalize wr.alloc _=W3 at *
   clear t0 t1 t2 t3 t4 t5 t6 t7 t8 y0
   obtain ⟨t0,t1,t2,t3,t4,t5,t6,t7,t8⟩:=stp_cells (loc_stp L3.out)
   simp only [Nat.zero_add] at t0 t1 t2 t3 t4 t5 t6 t7 t8
   have hs3:wr.heap.size < W3.heap.size:=(Array.getElem?_eq_some_iff.1 L3.out).1
   have hpl:=place_nat x.at_.1 x.at_.2 W3 RQ.out.lab
   rw [show placeOf x.at_.1 x.at_.2=plOf x.at_ from rfl] at hpl
   have HPL:Hid (Calls _ _ _ _ _):=hpl
   clear hpl
   generalize hq0:plOf x.at_=q0 at *
   have HQ0:Hid (plOf x.at_=q0):=hq0
   clear hq0
   go_wp2_with fail
   refine HPL.out.mono ?_
   rintro e w4 ⟨rfl,hb4⟩
   have B4:Hid (Below wr.heap.size wr w4):=B3.out.trans (hb4.mono B3.out.size)
   have L4:Hid (w4.heap[wr.heap.size]?=some (.cells (stepC x).toArray 30 (0,0))):=(hb4.block _ hs3).trans L3.out
   have hs4:wr.heap.size < w4.heap.size:=Nat.lt_of_lt_of_le hs3 hb4.size
   clear t0 t1 t2 t3 t4 t5 t6 t7 t8 hb4 HPL B3 L3
   obtain ⟨t0,t1,t2,t3,t4,t5,t6,t7,t8⟩:=stp_cells (loc_stp L4.out)
   simp only [Nat.zero_add] at t0 t1 t2 t3 t4 t5 t6 t7 t8
   have M4:Hid (PMem w4 p S own2 G2):=M2.out.below B4.out
   by_cases hqa:q0=a
   ·subst hqa
    have hlx:labB ((S.t q).ses n).req.at_.1 ((S.t q).ses n).req.at_.2=true:=by rw [HX.out]; exact RQ.out.lab
    cases hh:S.hindB q n
    ·have HST:Hid (PS.settleL q q0 s (l.take (k+1))=(S.admitT q n).1.tellT q n (S.admitT q n).2):=by
      show _=_
      rw [STS.out]
      unfold PS.settle1
      rw [if_pos ⟨by rw [HX.out]; exact HQ0.out,hh⟩]
     go_wp2_with fail
     refine (isHind_is (a:=x.who) M4.out hq hn RQ.out.who hlx hh).mono ?_
     rintro e w5 ⟨rfl,hb5⟩
     have B5:Hid (Below wr.heap.size wr w5):=B4.out.trans (hb5.mono B4.out.size)
     have M5:Hid (PMem w5 p S own2 G2):=M2.out.below B5.out
     have CG5:Hid (ChgQ own w w5 own2):=CG2.out.trans (ChgQ.of_below B5.out)
     have L5:Hid (w5.heap[wr.heap.size]?=some (.cells (stepC x).toArray 30 (0,0))):=(hb5.block _ hs4).trans L4.out
     have hs5:wr.heap.size < w5.heap.size:=Nat.lt_of_lt_of_le hs4 hb5.size
     clear t0 t1 t2 t3 t4 t5 t6 t7 t8 hb5
     obtain ⟨t0,t1,t2,t3,t4,t5,t6,t7,t8⟩:=stp_cells (loc_stp L5.out)
     simp only [Nat.zero_add] at t0 t1 t2 t3 t4 t5 t6 t7 t8
     go_wp2_with fail
     refine (admit_is (a:=x.who) M5.out hq hn RQ.out.who (by rw [HX.out]; exact RQ.out.toReqOk) FSt.out.short ((FSt.out.tr q hq).locks hn)).mono ?_
     rintro e w6 ⟨v,own6,G6,rfl,hrow,m6,cg6,hv⟩
     have HZ6:=cg6.size
     generalize hS6:S.admitT q n=SA at *
     obtain ⟨ao6,cap6,rfl⟩:=ownsRow_form hrow
     have B7:Hid (Below w6.heap.size w6 (w6.alloc (.cells #[.int .i64 SA.2.code,.int .i64 SA.2.why,.slice ao6 SA.2.items.length cap6] 66))):=(Below.refl _ _).alloc (Nat.le_refl _) _
     have L7:Hid (ansBlk (w6.alloc (.cells #[.int .i64 SA.2.code,.int .i64 SA.2.why,.slice ao6 SA.2.items.length cap6] 66)) w6.heap.size SA.2.code SA.2.why (.slice ao6 SA.2.items.length cap6)):=heap_alloc_new w6 _
     have M6:Hid (PMem w6 p SA.1 own6 G6):=m6
     have HR6:Hid (w6.ownsRow 0 94 2 (.slice ao6 SA.2.items.length cap6) SA.2.items.length (itemsV SA.2.items)):=hrow
     have CG6:Hid (ChgQ own2 w5 w6 own6):=cg6
     have HV6:Hid (∀ b,(Value.slice ao6 SA.2.items.length cap6).ownBlock=some b→own6 b=none∧((own2 b≠none∧∀ x,own2 b≠some (5,x))∨w5.heap.size≤b)):=hv
     clear m6 hrow cg6 hv hS6 t0 t1 t2 t3 t4 t5 t6 t7 t8
     unfold ansV
     go_upto_region 9 with fail
     generalize w6.alloc _=W7 at *
     have hs7:w6.heap.size < W7.heap.size:=(Array.getElem?_eq_some_iff.1 L7.out).1
     obtain ⟨e0,e1,e2,_,_,_⟩:=ans_cells L7.out
     have M7:Hid (PMem W7.drew p SA.1 own6 G6):=M6.out.below B7.out.drew
     have HT:Hid (W7.drew.there p (tO q+32+n*79+75) (outC SA.2 (.slice ao6 SA.2.items.length cap6)).toArray.size):=M7.out.sesFits hq hn (by simp [outC])
     obtain ⟨m8,cg8⟩:=M7.out.setOut hq hn (a:=SA.2) (ownsRow_below HR6.out B7.out.drew) (CG6.out.trans (ChgQ.of_below B7.out.drew)) HV6.out
     have M8:Hid (PMem (W7.drew.setCells p (tO q+32+n*79+75) (outC SA.2 (.slice ao6 SA.2.items.length cap6))) p _ _ _):=m8
     have CG8:Hid (ChgQ own w (W7.drew.setCells p (tO q+32+n*79+75) (outC SA.2 (.slice ao6 SA.2.items.length cap6))) _):=CG5.out.trans cg8
     clear m8 cg8
     have hS:(fun W:World=>W.cell? ⟨w6.heap.size,0,none⟩=some (.int .i64 SA.2.code)∧W.cell? ⟨w6.heap.size,1,none⟩=some (.int .i64 SA.2.why)∧W.cell? ⟨w6.heap.size,2,none⟩=some (.slice ao6 SA.2.items.length cap6)) W7.drew:=⟨e0,e1,e2⟩
     refine wp_region_Z (z:=7) (S:=fun W=>W.cell? ⟨w6.heap.size,0,none⟩=some (.int .i64 SA.2.code)∧W.cell? ⟨w6.heap.size,1,none⟩=some (.int .i64 SA.2.why)∧W.cell? ⟨w6.heap.size,2,none⟩=some (.slice ao6 SA.2.items.length cap6)) (by kernel_rfl) ?_
     refine zC 9 (i:=0) (v:=?v1) (by decide +kernel) rfl (fun _ _ _ h=>h) hS (.inl ⟨by rfl,?y1⟩) ?_
     case y1=>(rintro wz ⟨zs0,zs1,zs2⟩; go_simp<;>with_reducible rfl)
     simp only [Act.put,z1,z2,z4]
     refine zC 9 (i:=1) (v:=?v2) (by decide +kernel) rfl (fun _ _ _ h=>h) hS (.inl ⟨by rfl,?y2⟩) ?_
     case y2=>(rintro wz ⟨zs0,zs1,zs2⟩; go_simp<;>with_reducible rfl)
     simp only [Act.put,z1,z2,z3,z4,z5,z6]
     refine zC 9 (i:=2) (v:=?v3) (by decide +kernel) rfl (fun _ _ _ h=>h) hS (.inl ⟨by rfl,?y3⟩) ?_
     case y3=>(rintro wz ⟨zs0,zs1,zs2⟩; go_simp<;>with_reducible rfl)
     simp only [Act.put,z1,z2,z3,z4,z5,z6]
     refine zC 9 (i:=3) (v:=?v4) (by decide +kernel) rfl (fun _ _ _ h=>h) hS (.inl ⟨by rfl,?y4⟩) ?_
     case y4=>(rintro wz ⟨zs0,zs1,zs2⟩; go_simp<;>with_reducible rfl)
     simp only [Act.put,z1,z2,z3,z4,z5,z6]
     refine zC 9 (i:=4) (v:=?v5) (by decide +kernel) rfl (fun _ _ _ h=>h) hS (.inl ⟨by rfl,?y5⟩) ?_
     case y5=>(rintro wz ⟨zs0,zs1,zs2⟩; go_simp<;>with_reducible rfl)
     simp only [Act.put,z1,z2,z3,z4,z5,z6]
     refine zC 9 (i:=5) (v:=?v6) (by decide +kernel) rfl (fun _ _ _ h=>h) hS (.inl ⟨by rfl,?y6⟩) ?_
     case y6=>(rintro wz ⟨zs0,zs1,zs2⟩; go_simp<;>with_reducible rfl)
     simp only [Act.put,z1,z2,z3,z4,z5,z6]
     refine zC 9 (i:=6) (v:=?v7) (by decide +kernel) rfl (fun _ _ _ h=>h) hS (.inl ⟨by rfl,?y7⟩) ?_
     case y7=>(rintro wz ⟨zs0,zs1,zs2⟩; go_simp<;>with_reducible rfl)
     simp only [Act.put,z1,z2,z3,z4,z5,z6]
     refine wpAnyZ_one (i:=7) (by decide +kernel) rfl (fun K hK=>?_)
     rw [if_pos (by rfl)]
     refine wp_store_mid 66 _ _ rfl p (tO q+32+n*79+75) (outC SA.2 (.slice ao6 SA.2.items.length cap6)).toArray rfl rfl HT.out size66 (out_one _ _ _ _) (hK _ _ (fun h=>absurd rfl h) ?_)
     clear hK
     refine wpAnyZ_done (by decide +kernel) ?_ _
     simp only
     generalize W7.drew.setCells p (tO q+32+n*79+75) (outC SA.2 (.slice ao6 SA.2.items.length cap6))=W8 at *
     have hcm:=ses_came (M8.out.sesAt hq hn)
     have hfz:=M8.out.froz (tO q+32+n*79+74)
     have hp8:=M8.out.lt
     have h9:=M8.out.put1 hq hn { ((SA.1.t q).ses n) with out:=SA.2,came:=true } (i:=74) (v:=.bool true) (by decide) (by rw [setS_at,PG.setS_at,← sesC_came]) (by rw [setS_at]) (by rw [setS_at])
     rw [setS_setS] at h9
     have J:Hid (Moved own w p (PS.settleL q q0 s (l.take (k+1))) (W8.setCell ⟨p,tO q+32+n*79+74,none⟩ (.bool true))):=by
      show Moved _ _ _ _ _
      rw [HST.out]
      exact ⟨_,_,h9.1,CG8.out.trans h9.2⟩
     clear h9
     go_wp2
     go_roundw
     case rel=>exact ⟨k+1,by omega,by go_num,J⟩
     case measure=>simp [intOf]; omega
    ·go_wp2_with fail
     refine (isHind_is (a:=x.who) M4.out hq hn RQ.out.who hlx hh).mono ?_
     rintro e w5 ⟨rfl,hb5⟩
     have J:Hid (Moved own w p (PS.settleL q q0 s (l.take (k+1))) w5):=by
      show Moved _ _ _ _ _
      rw [STS.out]
      unfold PS.settle1
      rw [if_neg (fun h=>by rw [hh] at h; cases h.2)]
      exact ⟨own2,G2,M4.out.below hb5,(CG2.out.trans (ChgQ.of_below B4.out)).trans (ChgQ.of_below hb5)⟩
     clear hb5
     go_wp2
     go_roundw
     case rel=>exact ⟨k+1,by omega,by go_num,J⟩
     case measure=>simp [intOf]; omega
   ·have zz:(q0:Int)≠(a:Int):=by omega
    have J:Hid (Moved own w p (PS.settleL q a s (l.take (k+1))) w4):=by
     show Moved _ _ _ _ _
     rw [STS.out]
     unfold PS.settle1
     rw [if_neg (fun h=>hqa (by rw [← HQ0.out,← HX.out]; exact h.1))]
     exact ⟨own2,G2,M4.out,CG2.out.trans (ChgQ.of_below B4.out)⟩
    clear hqa
    go_wp2
    go_roundw
    case rel=>exact ⟨k+1,by omega,by go_num,J⟩
    case measure=>simp [intOf]; omega
  ·have e:k=l.length:=by omega
   subst e
   go_wp2
   refine bodyPost_end (v:=.tuple #[]) (by simp [results,Try.results106,go_sem]) rfl ⟨rfl,?_⟩
   rw [← HEnd.out]; exact I.out
theorem settle_is {w:World} {p:Nat} {s:PS} {own:Own} {G:PG} (m:PMem w p s own G) (F:s.Fit) :
  Calls Try.prog 83 #[.pointer (some ⟨p,0,none⟩)] w fun e w'=>e=.returned (.tuple #[])∧Moved own w p s.settleT w':=by
 have HF:Hid s.Fit:=F
 have I0:Hid (Moved own w p (s.settleTo 0) w):=m.went (Below.refl _ _)
 clear m F
 go_enter Try.func83,Try.ntmps83
 go_wp2_with fail
 go_loopw [4] (fun i wr=>∃ a:Nat,a≤32∧i=.int .i64 a∧Hid (Moved own w p (s.settleTo a) wr)) (fun i _=>32 - (intOf i).toNat)
 case atStart=>exact ⟨0,Nat.zero_le _,rfl,I0⟩
 case round =>
  obtain ⟨a,ha,rfl,I⟩:=hrel
  by_cases hlt:a < 32
  ·have za:(a:Int) < 32:=by omega
   have J0:Hid (Moved own w p ((s.settleTo a).settleF a 0) wr):=I
   go_wp2_with fail
   go_loopw [3] (fun i wr=>∃ k:Nat,a+k≤32∧i=.int .i64 (a+k:Nat)∧Hid (Moved own w p ((s.settleTo a).settleF a k) wr)) (fun i _=>32 - (intOf i).toNat)
   case atStart=>exact ⟨0,by omega,rfl,J0⟩
   case round =>
    obtain ⟨k,hk,rfl,J⟩:=hrel
    by_cases hlt2:a+k < 32
    ·have zk:((a+k:Nat):Int) < 32:=by omega
     obtain ⟨own2,G2,m2,cg2⟩:=J.out
     have M2:Hid (PMem wr p ((s.settleTo a).settleF a k) own2 G2):=m2
     have CG2:Hid (ChgQ own w wr own2):=cg2
     have FSt:Hid ((s.settleTo a).settleF a k).Fit:=(HF.out.settleTo a (by omega)).settleF a k (by omega)
     clear m2 cg2
     generalize hc:a+k=c at *
     have HC:Hid (a+k=c):=hc
     clear hc
     go_wp2_with fail
     refine (settleQ_is (q:=c) (a:=a) M2.out hlt2 FSt.out).mono ?_
     rintro e w5 ⟨rfl,hmv⟩
     have J':Hid (Moved own w p ((s.settleTo a).settleF a (k+1)) w5):=by
      show Moved _ _ _ ((PS.settleQ _ (a+k) a)) _
      rw [HC.out]; exact Moved.trans CG2.out hmv
     clear hmv
     have hc1:a+(k+1)=c+1:=by have:=HC.out; omega
     go_wp2
     go_roundw
     case rel=>exact ⟨k+1,by omega,by rw [hc1]; go_num,J'⟩
     case measure=>simp [intOf]; omega
    ·have e:a+k=32:=by omega
     have ek:k=32 - a:=by omega
     subst ek
     have I':Hid (Moved own w p (s.settleTo (a+1)) wr):=J
     rw [e]
     go_wp2
     go_roundw
     case rel=>exact ⟨a+1,by omega,by go_num,I'⟩
     case measure=>simp [intOf]; omega
  ·have e:a=32:=by omega
   subst e
   go_wp2
   refine bodyPost_end (v:=.tuple #[]) (by simp [results,Try.results83,go_sem]) rfl ⟨rfl,?_⟩
   exact I.out
theorem finish_is {w:World} {p q n:Nat} {a:Wh} {s:PS} {own:Own} {G:PG} (m:PMem w p s own G) (hq:q < 32) (hn:n < 4) (ha:a=whoOf q n) (F:s.Fit) :
  Calls Try.prog 72 #[.pointer (some ⟨p,0,none⟩),.agg #[.int .i64 a.1,.int .i64 a.2.1,.int .i64 a.2.2]] w fun e w'=>e=.returned (.tuple #[])∧Moved own w p (s.finishT q n) w':=by
 have M:Hid (PMem w p s own G):=m
 have HF:Hid s.Fit:=F
 have hp:=m.lt
 clear m F
 obtain ⟨a0,a1,a2⟩:=a
 simp only [whoOf,Prod.mk.injEq] at ha
 obtain ⟨h0,h1,h2⟩:=ha
 subst h2
 have Ha:Hid ((a0,a1)=labOf q):=by show _=_; rw [h0,h1]
 have hlab:labB a0 a1=true:=by rw [h0,h1]; exact labOf_ok hq
 have hpl:plOf (a0,a1)=q:=by rw [Ha.out]; exact plOf_labOf hq
 clear h0 h1
 go_enter Try.func72,Try.ntmps72
 go_wp2_with fail
 refine (tier_is (a:=(a0,a1)) hlab hpl).mono ?_
 rintro e w1 ⟨rfl,hb1⟩
 have hB1:Hid (Below w.heap.size w w1):=((Below.refl _ _).alloc (Nat.le_refl _) _).trans (hb1.mono (by simp))
 have hz1:w.heap.size < w1.heap.size:=by have:=hb1.size; simp at this; omega
 have d2:w1.cell? ⟨w.heap.size,2,none⟩=some (.int .i64 (n:Int)):=by rw [(bcell hb1).1 _ _ (by simp)]; simp
 clear hb1
 go_wp2_with fail
 refine (trEnd_is (M.out.below hB1.out) hq hn (HF.out.short q hq).1 (HF.out.short q hq).2).mono ?_
 rintro e w2 ⟨rfl,own2,G2,m2,cg2⟩
 have M2:Hid (PMem w2 p (s.setT q ((s.t q).endT n)) own2 G2):=m2
 have CG2:Hid (ChgQ own w w2 own2):=(ChgQ.of_below hB1.out).trans cg2
 clear m2 cg2 d2
 go_wp2_with fail
 refine (settle_is M2.out (HF.out.setT ((HF.out.tr q hq).endT n))).mono ?_
 rintro e w3 ⟨rfl,hmv⟩
 have J:Hid (Moved own w p (s.finishT q n) w3):=Moved.trans CG2.out hmv
 clear hmv
 go_wp2
 exact bodyPost_end (v:=.tuple #[]) (by simp [results,Try.results72,go_sem]) rfl ⟨rfl,J.out⟩
theorem abort_is {w:World} {p q n:Nat} {a:Wh} {s:PS} {own:Own} {G:PG} (m:PMem w p s own G) (hq:q < 32) (hn:n < 4) (ha:a=whoOf q n) (F:s.Fit) :
  Calls Try.prog 54 #[.pointer (some ⟨p,0,none⟩),.agg #[.int .i64 a.1,.int .i64 a.2.1,.int .i64 a.2.2]] w (AQ own w p (s.abortT q n).1 (s.abortT q n).2):=by
 have M:Hid (PMem w p s own G):=m
 have HF:Hid s.Fit:=F
 have hp:=m.lt
 have HA:Hid (a=whoOf q n):=ha
 clear m F
 obtain ⟨a0,a1,a2⟩:=a
 simp only [whoOf,Prod.mk.injEq] at ha
 obtain ⟨h0,h1,h2⟩:=ha
 subst h2
 have Ha:Hid ((a0,a1)=labOf q):=by show _=_; rw [h0,h1]
 have hlab:labB a0 a1=true:=by rw [h0,h1]; exact labOf_ok hq
 have hpl:plOf (a0,a1)=q:=by rw [Ha.out]; exact plOf_labOf hq
 clear h0 h1
 go_enter Try.func54,Try.ntmps54
 go_upto_region 1 with fail
 obtain ⟨B1,L0,L1⟩:=entryW (w:=w) (a:=(a0,a1,(n:Int)))
 unfold whoObj ansObj at *
 simp only at *
 generalize (w.alloc _).alloc _=W1 at *
 have hs1:w.heap.size+1 < W1.heap.size:=(Array.getElem?_eq_some_iff.1 L1.out).1
 obtain ⟨r0,r1,r2⟩:=who_cells L0.out
 go_wp2_with fail
 refine (tier_is (a:=(a0,a1)) hlab hpl).mono ?_
 rintro e w2 ⟨rfl,hb2⟩
 have B2:Hid (Below w.heap.size w w2):=B1.out.trans (hb2.mono B1.out.size)
 have L02:Hid (w2.heap[w.heap.size]?=_):=(hb2.block _ (by omega)).trans L0.out
 have L12:Hid (ansBlk w2 (w.heap.size+1) 0 0 (.slice none 0 0)):=(hb2.block _ (by omega)).trans L1.out
 have hs2:w.heap.size+1 < w2.heap.size:=Nat.lt_of_lt_of_le hs1 hb2.size
 obtain ⟨s0,s1,s2⟩:=who_cells L02.out
 obtain ⟨e0,e1,e2,f0,f1,f2⟩:=ans_cells L12.out
 clear r0 r1 r2 L0 L1 hb2 B1
 cases hlv:hasB (s.t q).begun n
 ·have HP:Hid (s.abortT q n=(s,⟨5,0,[]⟩)):=by show _=_; unfold PS.abortT; rw [hlv]; rfl
  obtain ⟨a1,a2⟩:=still_chain M.out B2.out (b:=w.heap.size+1) (by omega) L12.out 5 0
  have A1:Hid (ansBlk _ _ _ _ _):=a1
  have A2:Hid (AQ _ _ _ _ _ _ _):=a2
  clear a1 a2
  go_wp2_with fail
  refine (isLive_is (M.out.below B2.out) hq hlv).mono ?_
  rintro e w3 ⟨rfl,rfl⟩
  go_wp2
  refine ret_ans Try.results54 rfl A1.out rfl ?_
  rw [HP.out]; exact A2.out
 ·have HP:Hid (s.abortT q n=(s.finishT q n,⟨0,0,[]⟩)):=by show _=_; unfold PS.abortT; rw [hlv]; rfl
  go_wp2_with fail
  refine (isLive_is (M.out.below B2.out) hq hlv).mono ?_
  rintro e w3 ⟨rfl,rfl⟩
  go_wp2_with fail
  refine (finish_is (a:=(a0,a1,(n:Int))) (M.out.below B2.out) hq hn HA.out HF.out).mono ?_
  generalize s.finishT q n=sF at *
  rintro e w4 ⟨rfl,hmv⟩
  obtain ⟨b0,b1,b2⟩:=moved_chain (ChgQ.of_below B2.out) (b:=w.heap.size+1) (by omega) (M.out.off (by omega)) L12.out hmv 0 0
  clear e0 e1 e2 f0 f1 f2
  obtain ⟨e0,e1,e2,f0,f1,f2⟩:=ans_cells b0
  have A1:Hid (ansBlk _ _ _ _ _):=b1
  have A2:Hid (AQ _ _ _ _ _ _ _):=b2
  clear b0 b1 b2 hmv s0 s1 s2
  go_wp2
  refine ret_ans Try.results54 rfl A1.out rfl ?_
  rw [HP.out]; exact A2.out
theorem poll_is {w:World} {p q n:Nat} {s:PS} {own:Own} {G:PG} (m:PMem w p s own G) (hq:q < 32) (hn:n < 4) :
  Calls Try.prog 53 #[.pointer (some ⟨p,tO q,none⟩),.int .i64 n] w (AQ own w p (s.pollT q n).1 (s.pollT q n).2):=by
 have M:Hid (PMem w p s own G):=m
 have hp:=m.lt
 have zn:(n:Int) < 4:=by omega
 clear m
 go_enter Try.func53,Try.ntmps53
 go_upto_region 1 with fail
 have B1:Hid (Below w.heap.size w (w.alloc ansObj)):=(Below.refl _ _).alloc (Nat.le_refl _) _
 have L1:Hid (ansBlk (w.alloc ansObj) w.heap.size 0 0 (.slice none 0 0)):=heap_alloc_new w _
 unfold ansObj at *
 generalize w.alloc _=W1 at *
 have hs1:w.heap.size < W1.heap.size:=(Array.getElem?_eq_some_iff.1 L1.out).1
 have M1:Hid (PMem W1 p s own G):=M.out.below B1.out
 have hc:=M1.out.queC hq
 have hp1:=M1.out.lt
 have hcm:=ses_came (M1.out.sesAt hq hn)
 obtain ⟨e0,e1,e2,f0,f1,f2⟩:=ans_cells L1.out
 cases hqu:hasB (s.t q).queue n
 ·cases hca:((s.t q).ses n).came
  ·have HP:Hid (s.pollT q n=(s,⟨8,0,[]⟩)):=by show _=_; unfold PS.pollT; rw [hqu,hca]; rfl
   rw [hca] at hcm
   obtain ⟨a1,a2⟩:=still_chain M.out B1.out (b:=w.heap.size) (by omega) L1.out 8 0
   have A1:Hid (ansBlk _ _ _ _ _):=a1
   have A2:Hid (AQ _ _ _ _ _ _ _):=a2
   clear a1 a2
   go_wp2_with fail
   refine (has_is (M1.out.queR q hq) hqu).mono ?_
   rintro e w3 ⟨rfl,rfl⟩
   go_wp2
   refine ret_ans Try.results53 rfl A1.out rfl ?_
   rw [HP.out]; exact A2.out
  ·have HP:Hid (s.pollT q n=(s.heard q n,((s.t q).ses n).out)):=by show _=_; unfold PS.pollT; rw [hqu,hca]; rfl
   rw [hca] at hcm
   go_wp2_with fail
   refine (has_is (M1.out.queR q hq) hqu).mono ?_
   rintro e w3 ⟨rfl,rfl⟩
   go_wp2_with fail
   refine (tellOut_is M1.out hq hn).mono ?_
   intro e w4 haq
   obtain ⟨ao,cap,rfl,a0,a1,a2⟩:=aq_chain (ChgQ.of_below B1.out) (b:=w.heap.size) (Nat.le_refl _) (M.out.off (Nat.le_refl _)) L1.out haq
   clear e0 e1 e2 f0 f1 f2 hc hcm
   obtain ⟨e0,e1,e2,f0,f1,f2⟩:=ans_cells a0
   have A1:Hid (ansBlk _ _ _ _ _):=a1
   have A2:Hid (AQ _ _ _ _ _ _ _):=a2
   clear a0 a1 a2 haq
   unfold ansV
   go_wp2
   refine ret_ans Try.results53 rfl A1.out rfl ?_
   rw [HP.out]; exact A2.out
 ·have HP:Hid (s.pollT q n=(s,⟨1,0,[]⟩)):=by show _=_; unfold PS.pollT; rw [hqu]; rfl
  obtain ⟨a1,a2⟩:=still_chain M.out B1.out (b:=w.heap.size) (by omega) L1.out 1 0
  have A1:Hid (ansBlk _ _ _ _ _):=a1
  have A2:Hid (AQ _ _ _ _ _ _ _):=a2
  clear a1 a2
  go_wp2_with fail
  refine (has_is (M1.out.queR q hq) hqu).mono ?_
  rintro e w3 ⟨rfl,rfl⟩
  go_wp2
  refine ret_ans Try.results53 rfl A1.out rfl ?_
  rw [HP.out]; exact A2.out
end Go.Proofs.Ytpbcplfpjcacfaa
