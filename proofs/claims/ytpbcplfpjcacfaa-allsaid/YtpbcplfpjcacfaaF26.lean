import Derived.Test.YtpbcplfpjcacfaaF25
namespace Go.Proofs.Ytpbcplfpjcacfaa
open Go.RowKit
set_option maxRecDepth 100000
set_option maxHeartbeats 8000000
theorem begin_is {w:World} {p q n:Nat} {a:Wh} {s:PS} {own:Own} {G:PG} (m:PMem w p s own G) (hq:q < 32) (ha:a=whoOf q n) (F:s.Fit) :
  Calls Try.prog 56 #[.pointer (some ⟨p,0,none⟩),.agg #[.int .i64 a.1,.int .i64 a.2.1,.int .i64 a.2.2]] w (AQ own w p (s.beginT q n).1 (s.beginT q n).2):=by
 have M:Hid (PMem w p s own G):=m
 have hp:=m.lt
 have h4:(s.t q).begun.length≤4:=(F.short q hq).1
 have HNO:Hid (∀ k,w.heap.size≤k→own k=none):=fun k hk=>m.off hk
 clear m F
 obtain ⟨a0,a1,a2⟩:=a
 simp only [whoOf,Prod.mk.injEq] at ha
 obtain ⟨h0,h1,h2⟩:=ha
 subst h2
 have Ha:Hid ((a0,a1)=labOf q):=by show _=_; rw [h0,h1]
 have hlab:labB a0 a1=true:=by rw [h0,h1]; exact labOf_ok hq
 have hpl:plOf (a0,a1)=q:=by rw [Ha.out]; exact plOf_labOf hq
 clear h0 h1
 go_enter Try.func56,Try.ntmps56
 go_upto_region 1 with fail
 obtain ⟨B1,L0,L1⟩:=entryW (w:=w) (a:=(a0,a1,(n:Int)))
 unfold whoObj ansObj at *
 simp only at *
 generalize (w.alloc _).alloc _=W1 at *
 have hs1:w.heap.size+1 < W1.heap.size:=(Array.getElem?_eq_some_iff.1 L1.out).1
 obtain ⟨r0,r1,r2⟩:=who_cells L0.out
 go_wp2_with fail
 refine (tier_is (a:=(a0,a1)) hlab hpl).mono ?_
 rintro e w2 ⟨rfl,hb2⟩
 have B2:Hid (Below w.heap.size w w2):=B1.out.trans (hb2.mono B1.out.size)
 have L02:Hid (w2.heap[w.heap.size]?=_):=(hb2.block _ (by omega)).trans L0.out
 have L12:Hid (ansBlk w2 (w.heap.size+1) 0 0 (.slice none 0 0)):=(hb2.block _ (by omega)).trans L1.out
 have hs2:w.heap.size+1 < w2.heap.size:=Nat.lt_of_lt_of_le hs1 hb2.size
 clear r0 r1 r2 L0 L1 hb2 B1
 have M2:Hid (PMem w2 p s own G):=M.out.below B2.out
 obtain ⟨s0,s1,s2⟩:=who_cells L02.out
 obtain ⟨e0,e1,e2,f0,f1,f2⟩:=ans_cells L12.out
 cases hlv:hasB (s.t q).begun n
 ·go_wp2_with fail
  refine (isLive_is M2.out hq hlv).mono ?_
  rintro e w3 ⟨rfl,rfl⟩
  have hrow:=M2.out.begR q hq
  obtain ⟨ao,cap,hv,hmax⟩:=hrow.lens len_natC
  have hc:=M2.out.begC hq
  have HV:Hid (G.b q=.slice ao (s.t q).begun.length cap):=hv
  rw [hv] at hc
  obtain ⟨_,kv,_⟩:=M2.out.keysC
  clear hv hrow hmax
  have kne:=kin_some w2
  have kk:=kin_cell kv
  have kc:=kin_cell hc
  go_upto_region 4 with fail
  refine wp_region_kin (by kernel_rfl) (by kernel_rfl) ?_
  repeat (first | go_big_quiet_step (fail) | quiet_step (fail))
  refine wpQuiet_nil ?_
  intro _ hw'
  obtain ⟨xq,hw''⟩:=hw'
  subst hw''
  have B3:Hid (Below w.heap.size w xq.w):=B2.out.trans (xq.h.mono B2.out.size)
  have L03:Hid (xq.w.heap[w.heap.size]?=_):=(xq.h.block _ (by omega)).trans L02.out
  have L13:Hid (ansBlk xq.w (w.heap.size+1) 0 0 (.slice none 0 0)):=(xq.h.block _ (by omega)).trans L12.out
  clear kne kk kc kv hc s0 s1 s2 e0 e1 e2 f0 f1 f2
  generalize xq.w=w3 at *
  have hs3:w.heap.size+1 < w3.heap.size:=(Array.getElem?_eq_some_iff.1 L13.out).1
  have M3:Hid (PMem w3 p s own G):=M.out.below B3.out
  obtain ⟨e0,e1,e2,f0,f1,f2⟩:=ans_cells L13.out
  by_cases hfull:s.v≤((s.t q).begun.length:Int)
  ·have HP:Hid (s.beginT q n=(s,⟨4,0,[]⟩)):=by show _=_; unfold PS.beginT; rw [hlv]; simp [hfull]
   obtain ⟨a1,a2⟩:=still_chain M.out B3.out (b:=w.heap.size+1) (by omega) L13.out 4 0
   have A1:Hid (ansBlk _ _ _ _ _):=a1
   have A2:Hid (AQ _ _ _ _ _ _ _):=a2
   clear a1 a2
   go_wp2
   refine ret_ans Try.results56 rfl A1.out rfl ?_
   rw [HP.out]; exact A2.out
  ·have HP:Hid (s.beginT q n=(s.setB q ((s.t q).begun++[n]),⟨0,0,[]⟩)):=by show _=_; unfold PS.beginT; rw [hlv]; simp [hfull]
   have hfz:=M3.out.froz (tO q+348)
   have hc:=M3.out.begC hq
   rw [HV.out] at hc
   have hrow:=M3.out.begR q hq
   rw [HV.out] at hrow
   have HROW:Hid (Row w3 own (begTag q) 3 1 (.slice ao (s.t q).begun.length cap) (s.t q).begun natC):=hrow
   obtain ⟨_,_,d2⟩:=who_cells L03.out
   have hp3:=M3.out.lt
   have hsz3:w.heap.size < w3.heap.size:=by omega
   clear hrow e0 e1 e2 f0 f1 f2
   obtain ⟨i0,hi0,hz0,hs0,hb0⟩:=info_all infoI
   go_upto_region 6 with fail
   have hS:(fun W:World=>W.cell? ⟨p,tO q+348,none⟩=some (.slice ao (s.t q).begun.length cap)∧W.cell? ⟨w.heap.size,2,none⟩=some (.int .i64 (n:Int))) w3.drew:=⟨hc,d2⟩
   refine wp_region_Z (z:=11) (S:=fun W=>W.cell? ⟨p,tO q+348,none⟩=some (.slice ao (s.t q).begun.length cap)∧W.cell? ⟨w.heap.size,2,none⟩=some (.int .i64 (n:Int))) (by kernel_rfl) ?_
   refine zC 9 (i:=0) (v:=?v1) (by decide +kernel) rfl (fun _ _ _ h=>h) hS (.inl ⟨by rfl,?y1⟩) ?_
   case y1=>(rintro wz ⟨zs0,zs1⟩; go_simp<;>with_reducible rfl)
   simp only [Act.put,z1,z2,z4]
   refine zC 9 (i:=1) (v:=?v2) (by decide +kernel) rfl (fun _ _ _ h=>h) hS (.inl ⟨by rfl,?y2⟩) ?_
   case y2=>(rintro wz ⟨zs0,zs1⟩; go_simp<;>with_reducible rfl)
   simp only [Act.put,z1,z2,z3,z4,z5,z6]
   refine zC 9 (i:=2) (v:=?v3) (by decide +kernel) rfl (fun _ _ _ h=>h) hS (.inl ⟨by rfl,?y3⟩) ?_
   case y3=>(rintro wz ⟨zs0,zs1⟩; go_simp<;>with_reducible rfl)
   simp only [Act.put,z1,z2,z3,z4,z5,z6]
   refine zC 9 (i:=3) (v:=?v4) (by decide +kernel) rfl (fun _ _ _ h=>h) hS (.inl ⟨by rfl,?y4⟩) ?_
   case y4=>(rintro wz ⟨zs0,zs1⟩; go_simp<;>with_reducible rfl)
   simp only [Act.put,z1,z2,z3,z4,z5,z6]
   refine zC 9 (i:=4) (v:=?v5) (by decide +kernel) rfl (fun _ _ _ h=>h) hS (.inl ⟨by rfl,?y5⟩) ?_
   case y5=>(rintro wz ⟨zs0,zs1⟩; go_simp<;>with_reducible rfl)
   simp only [Act.put,z1,z2,z3,z4,z5,z6]
   refine zC 9 (i:=5) (v:=?v6) (by decide +kernel) rfl (fun _ _ _ h=>h) hS (.inl ⟨by rfl,?y6⟩) ?_
   case y6=>(rintro wz ⟨zs0,zs1⟩; go_simp<;>with_reducible rfl)
   simp only [Act.put,z1,z2,z3,z4,z5,z6]
   refine zC 9 (i:=6) (v:=?v7) (by decide +kernel) rfl (fun _ _ _ h=>h) hS (.inl ⟨by rfl,?y7⟩) ?_
   case y7=>(rintro wz ⟨zs0,zs1⟩; go_simp<;>with_reducible rfl)
   simp only [Act.put,z1,z2,z3,z4,z5,z6]
   have hx4:(w3.alloc (.cells #[.int .i64 (n:Int)] 3)).drew.cell? ⟨p,tO q+348,none⟩=some (.slice ao (s.t q).begun.length cap):=by
    rw [World.cell?_drew,World.cell?_alloc_lt _ _ _ (by exact hp3)]; exact hc
   have hxk:(w3.alloc (.cells #[.int .i64 (n:Int)] 3)).drew.cell? ⟨w.heap.size,2,none⟩=some (.int .i64 (n:Int)):=by
    rw [World.cell?_drew,World.cell?_alloc_lt _ _ _ (by exact hsz3)]; exact d2
   refine wpAnyZ_one (i:=7) (by decide +kernel) rfl (fun K hK=>?_)
   go_simp
   refine hK _ _ (fun _=>⟨hx4,hxk⟩) ?_
   clear hK
   refine wpAnyZ_one (i:=8) (by decide +kernel) rfl (fun K hK=>?_)
   refine step_append_lies _ (by rfl) _ _ _ (by rfl) 0 3 i0 _ 1 8 Try.underlying49 hi0 hz0 hs0 hb0 rfl (by omega) (.slice ao (s.t q).begun.length cap) (s.t q).begun.length ((s.t q).begun.flatMap natC) (by rfl) ((HROW.out.1.alloc _).drew)
    ⟨w3.heap.size,0,none⟩ 1 1 [.int .i64 (n:Int)] (by rfl) (by rfl) (World.news_of_block (cs:=#[.int .i64 (n:Int)]) (t:=3) (fr:=(0,0)) (heap_alloc_new w3 _)) (by simp [Value.oneCell'])
    (by omega) (by unfold maxLen; omega) (by omega) (Nat.zero_le _) (w3.heap.size+1) (by simp) ?_
   intro gg cap' w4 hown1 hgrow hat hlt1
   simp only [Act.put,List.getElem_toArray,List.getElem_cons_zero,List.getElem_cons_succ,List.setIfInBounds_toArray,List.set_cons_zero,List.set_cons_succ]
   have nr:(Value.slice ao (s.t q).begun.length cap).ownBlock≠some p:=fun e=>by
    have:=HROW.out.2 p e; rw [M3.out.tag] at this; simp [rootTag,begTag] at this
   have nx:(Value.slice ao (s.t q).begun.length cap).ownBlock≠some w.heap.size:=fun e=>by
    have:=HROW.out.2 _ e; rw [HNO.out _ (Nat.le_refl _)] at this; cases this
   have q4:w4.cell? ⟨p,tO q+348,none⟩=some (.slice ao (s.t q).begun.length cap):=hgrow.cell hx4 (Ne.symm nr)
   have qk:w4.cell? ⟨w.heap.size,2,none⟩=some (.int .i64 (n:Int)):=hgrow.cell hxk (Ne.symm nx)
   have fo:w4.frozen? ⟨p,tO q+348,none⟩=false:=by
    rw [World.frozen?_of_block (hgrow.block p (by simp; omega) (Ne.symm nr))]
    rw [World.frozen?_drew,World.frozen?_alloc_past _ _ _ (by omega)]; exact hfz
   refine hK _ _ (fun _=>⟨q4,qk⟩) ?_
   clear hK
   refine wpAnyZ_one (i:=9) (by decide +kernel) rfl (fun K hK=>?_)
   go_simp
   refine hK _ _ (fun _=>⟨q4,qk⟩) ?_
   clear hK
   refine wpAnyZ_one (i:=10) (by decide +kernel) rfl (fun K hK=>?_)
   go_simp
   refine hK _ _ (fun _=>⟨q4,qk⟩) ?_
   clear hK
   refine wpAnyZ_one (i:=11) (by decide +kernel) rfl (fun K hK=>?_)
   go_simp
   refine hK _ _ (fun h=>absurd rfl h) ?_
   clear hK
   refine wpAnyZ_done (by decide +kernel) ?_ _
   rw [← HV.out] at hgrow hat
   obtain ⟨m5,cg5⟩:=M3.out.appBeg hq (W:=(w3.alloc (.cells #[.int .i64 (n:Int)] 3)).drew) (x:=n) (H:=w3.heap.size+1) (fun k hk=>Below.heap_alloc _ _ _ hk) (by simp) rfl rfl rfl hgrow hown1 hat (by omega) hlt1
   have hmv:Moved own w3 p (s.setB q ((s.t q).begun++[n])) (w4.setCell ⟨p,tO q+348,none⟩ (.slice (some ⟨gg,0,none⟩) ((s.t q).begun.length+1) cap')):=⟨_,_,m5,cg5⟩
   obtain ⟨b0,b1,b2⟩:=moved_chain (ChgQ.of_below B3.out) (b:=w.heap.size+1) (by omega) (M.out.off (by omega)) L13.out hmv 0 0
   clear hown1 hgrow hat q4 qk fo m5 cg5 hx4 hxk hc hfz hS d2
   generalize w4.setCell ⟨p,tO q+348,none⟩ (.slice (some ⟨gg,0,none⟩) ((s.t q).begun.length+1) cap')=W5 at *
   obtain ⟨e0,e1,e2,f0,f1,f2⟩:=ans_cells b0
   have A1:Hid (ansBlk _ _ _ _ _):=b1
   have A2:Hid (AQ _ _ _ _ _ _ _):=b2
   clear b0 b1 b2 hmv
   go_wp2
   refine ret_ans Try.results56 rfl A1.out rfl ?_
   rw [HP.out]; exact A2.out
 ·have HP:Hid (s.beginT q n=(s,⟨6,0,[]⟩)):=by show _=_; unfold PS.beginT; rw [hlv]; rfl
  obtain ⟨a1,a2⟩:=still_chain M.out B2.out (b:=w.heap.size+1) (by omega) L12.out 6 0
  have A1:Hid (ansBlk _ _ _ _ _):=a1
  have A2:Hid (AQ _ _ _ _ _ _ _):=a2
  clear a1 a2
  go_wp2_with fail
  refine (isLive_is M2.out hq hlv).mono ?_
  rintro e w3 ⟨rfl,rfl⟩
  go_wp2
  refine ret_ans Try.results56 rfl A1.out rfl ?_
  rw [HP.out]; exact A2.out
def PS.doT (s:PS) (x:Stp):PS × Ans:=if properB x=false then (s,⟨9,0,[]⟩) else s.actT (plOf x.who.lab) (numOf x.who) x
theorem who_is {x:Wh} {q n:Nat} (h1:labB x.1 x.2.1=true) (h2:0≤x.2.2) (hq:plOf x.lab=q) (hn:numOf x=n):x=whoOf q n:=by
 subst hq hn
 have:=labOf_plOf (a:=x.lab) h1
 unfold whoOf numOf
 rw [this]
 obtain ⟨a,b,c⟩:=x
 simp only [Wh.lab,Prod.mk.injEq,true_and] at *
 omega
theorem apost_chain {own own1:Own} {w W1 W:World} {p b:Nat} {s':PS} {a:Ans} {e:Ending} (cg:ChgD own w W1 own1) (hb:w.heap.size≤b) (ho1:own1 b=none) (hblk:ansBlk W1 b 0 0 (.slice none 0 0)) (h:AskPost own1 W1 p s' a e W) :
  ∃ ao cap,e=.returned (ansV a.code a.why (.slice ao a.items.length cap))∧ansBlk W b 0 0 (.slice none 0 0)∧ansBlk (ansW W b a.code a.why (.slice ao a.items.length cap)) b a.code a.why (.slice ao a.items.length cap) ∧
   APost own w (fun w' o=>PRep w' p s' o) a (.returned (ansV a.code a.why (.slice ao a.items.length cap))) (ansW W b a.code a.why (.slice ao a.items.length cap)):=by
 obtain ⟨v,o2,rfl,hrow,⟨G2,m2⟩,cg2,hv⟩:=h
 obtain ⟨ao,cap,rfl⟩:=ownsRow_form hrow
 have hb1:b < W1.heap.size:=(Array.getElem?_eq_some_iff.1 hblk).1
 have ho2:o2 b=none:=cg2.off ho1 hb1
 have hW:ansBlk W b 0 0 (.slice none 0 0):=(cg2.block b hb1 ho1).trans hblk
 have hvb:∀ k,(Value.slice ao a.items.length cap).ownBlock=some k→k≠b:=fun k hk e=>by
  subst e
  rcases (hv k hk).2 with h | h
  ·exact h ho1
  ·omega
 have hWW:ansW W b a.code a.why (.slice ao a.items.length cap)=W.setCells b 0 [.int .i64 a.code,.int .i64 a.why,.slice ao a.items.length cap]:=rfl
 refine ⟨ao,cap,rfl,hW,ans_stored _ _ _ hW,_,o2,rfl,?_,⟨G2,?_⟩,?_,?_⟩
 ·rw [hWW]; exact ownsRow_frame hrow (fun k hk=>setCells_other _ _ _ _ (hvb k hk))
 ·rw [hWW]; exact m2.free ho2 _
 ·rw [hWW]; exact chgD_free (cg.trans cg2) hb _
 ·intro k hk
  refine ⟨(hv k hk).1,?_⟩
  rcases (hv k hk).2 with h | h
  ·exact cg.fresh k h
  ·exact .inr (Nat.le_trans cg.size h)
theorem do_is {w:World} {p:Nat} {x:Stp} {s:PS} {own:Own} {G:PG} (m:PMem w p s own G) (F:s.Fit) :
  Calls Try.prog 28 #[.pointer (some ⟨p,0,none⟩),stepV x] w (AskPost own w p (s.doT x).1 (s.doT x).2):=by
 have M:Hid (PMem w p s own G):=m
 have HF:Hid s.Fit:=F
 have hp:=m.lt
 clear m F
 cases hpr:properB x
 ·have HK:Hid (s.doT x=(s,⟨9,0,[]⟩)):=by show _=_; unfold PS.doT; rw [hpr]; rfl
  have HPO:Hid (∀ w',Calls Try.prog 50 #[stepV x] w' (BoolPost w' false)):=fun w'=>by have:=possible_any x w'; rw [hpr] at this; exact this
  generalize s.doT x=AT at *
  unfold stepV at *
  go_enter Try.func28,Try.ntmps28
  go_upto_region 1 with fail
  obtain ⟨B1,L0,L1⟩:=entry2 (w:=w) (x:=x)
  unfold stpObj ansObj at *
  generalize (w.alloc _).alloc _=W1 at *
  have hs1:w.heap.size+1 < W1.heap.size:=(Array.getElem?_eq_some_iff.1 L1.out).1
  obtain ⟨r0,r1,r2,r3,r4,r5,r6,r7,r8⟩:=stp_cells (loc_stp L0.out)
  simp only [Nat.zero_add] at r0 r1 r2 r3 r4 r5 r6 r7 r8
  go_wp2_with fail
  refine (HPO.out _).mono ?_
  rintro e w2 ⟨rfl,hb2⟩
  have B2:Hid (Below w.heap.size w w2):=B1.out.trans (hb2.mono B1.out.size)
  have L12:Hid (ansBlk w2 (w.heap.size+1) 0 0 (.slice none 0 0)):=(hb2.block _ (by omega)).trans L1.out
  obtain ⟨e0,e1,e2,f0,f1,f2⟩:=ans_cells L12.out
  clear r0 r1 r2 r3 r4 r5 r6 r7 r8 hb2
  obtain ⟨a1,a2⟩:=still_chain M.out B2.out (b:=w.heap.size+1) (by omega) L12.out 9 0
  have A1:Hid (ansBlk _ _ _ _ _):=a1
  have A2:Hid (APost _ _ _ _ _ _):=a2.toA
  clear a1 a2
  go_wp2
  refine ret_ans Try.results28 rfl A1.out rfl ?_
  rw [HK.out]; exact A2.out
 ·have hPr:=proper_of hpr
  obtain ⟨n,hnn⟩:∃ n,numOf x.who=n:=⟨_,rfl⟩
  obtain ⟨q,hqq⟩:∃ q,plOf x.who.lab=q:=⟨_,rfl⟩
  have hlab:labB x.who.1 x.who.2.1=true:=by
   unfold properB at hpr
   simp only [Bool.and_eq_true] at hpr
   exact hpr.1.1
  have hq:q < 32:=by rw [← hqq]; exact plOf_lt hlab
  have h02:=hPr.who.2.1
  have h32:=hPr.who.2.2
  have hn:n < 4:=by rw [← hnn]; unfold numOf; omega
  have HW:Hid (x.who=whoOf q n):=who_is hlab h02 hqq hnn
  have h22:x.who.2.2=(n:Int):=by rw [HW.out]; rfl
  have hpl:plOf (x.who.1,x.who.2.1)=q:=hqq
  have zn:(n:Int) < 4:=by omega
  have HASK:Hid (x.op=2∨x.op=3∨x.op=4∨x.op=5→ReqOk q n x):=fun ho=>by
   obtain ⟨h1,h2⟩:=hPr.asks ho
   exact ⟨HW.out,⟨h1.key.1,h1.key.2⟩,by unfold labB; exact decide_eq_true h2⟩
  have hop:=hPr.op
  have HK:Hid (s.doT x=s.actT q n x):=by show _=_; unfold PS.doT; rw [hpr,hqq,hnn]; rfl
  have HPO:Hid (∀ w',Calls Try.prog 50 #[stepV x] w' (BoolPost w' true)):=fun w'=>by have:=possible_any x w'; rw [hpr] at this; exact this
  have HAT:Hid (s.actT q n x=if ((s.t q).ses n).ended≠0 then (s.untold q n,⟨2,((s.t q).ses n).ended,[]⟩) else if x.op=8 then s.pollT q n else if x.op=7 then s.abortT q n else if (s.t q).busyB n then (s,⟨7,0,[]⟩) else if x.op=1 then s.beginT q n else if hasB (s.t q).begun n=false then (s,⟨5,0,[]⟩) else if x.op=6 then s.commitT q n else s.askT q n x):=rfl
  rw [HK.out]
  generalize s.actT q n x=AT at *
  clear HK hPr hpr h02 h32 hqq hnn
  have hz:stepV x=.agg #[.int .i64 x.who.1,.int .i64 x.who.2.1,.int .i64 (n:Int),.int .i64 x.op,.int .i64 x.at_.1,.int .i64 x.at_.2,.int .i64 x.key,.int .i64 x.to_,.int .i64 x.value]:=by unfold stepV; rw [h22]
  have HZ:Hid (stepV x=.agg #[.int .i64 x.who.1,.int .i64 x.who.2.1,.int .i64 (n:Int),.int .i64 x.op,.int .i64 x.at_.1,.int .i64 x.at_.2,.int .i64 x.key,.int .i64 x.to_,.int .i64 x.value]):=hz
  rw [hz]
  have H22:Hid (x.who.2.2=(n:Int)):=h22
  have HWO:Hid ((x.who.1,x.who.2.1,(n:Int))=whoOf q n):=by show _=_; rw [← H22.out]; exact HW.out
  have HPO1:Hid (∀ w',Calls Try.prog 50 #[.agg #[.int .i64 x.who.1,.int .i64 x.who.2.1,.int .i64 (n:Int),.int .i64 x.op,.int .i64 x.at_.1,.int .i64 x.at_.2,.int .i64 x.key,.int .i64 x.to_,.int .i64 x.value]] w' (BoolPost w' true)):=fun w'=>by have:=HPO.out w'; rw [HZ.out] at this; exact this
  clear h22 hz HPO
  go_enter Try.func28,Try.ntmps28
  go_upto_region 1 with fail
  obtain ⟨B1,L0,L1⟩:=entry2 (w:=w) (x:=x)
  unfold stpObj ansObj at *
  rw [H22.out] at B1 L0 L1
  generalize (w.alloc _).alloc _=W1 at *
  have hs1:w.heap.size+1 < W1.heap.size:=(Array.getElem?_eq_some_iff.1 L1.out).1
  have HCE:Hid (∀ W:World,W.heap[w.heap.size]?=some (.cells (stepC x).toArray 30 (0,0))→W.cell? ⟨w.heap.size,0,none⟩=some (.int .i64 x.who.1)∧W.cell? ⟨w.heap.size,1,none⟩=some (.int .i64 x.who.2.1)∧W.cell? ⟨w.heap.size,2,none⟩=some (.int .i64 (n:Int))∧W.cell? ⟨w.heap.size,3,none⟩=some (.int .i64 x.op)∧W.cell? ⟨w.heap.size,4,none⟩=some (.int .i64 x.at_.1)∧W.cell? ⟨w.heap.size,5,none⟩=some (.int .i64 x.at_.2)∧W.cell? ⟨w.heap.size,6,none⟩=some (.int .i64 x.key)∧W.cell? ⟨w.heap.size,7,none⟩=some (.int .i64 x.to_)∧W.cell? ⟨w.heap.size,8,none⟩=some (.int .i64 x.value)):=fun W h=>by
   have:=stp_cells (loc_stp h)
   simp only [Nat.zero_add] at this
   rw [H22.out] at this
   exact this
  obtain ⟨r0,r1,r2,r3,r4,r5,r6,r7,r8⟩:=HCE.out _ L0.out
  go_wp2_with fail
  refine (HPO1.out _).mono ?_
  rintro e w2 ⟨rfl,hb2⟩
  have B2:Hid (Below w.heap.size w w2):=B1.out.trans (hb2.mono B1.out.size)
  have L02:Hid (w2.heap[w.heap.size]?=some (.cells (stepC x).toArray 30 (0,0))):=(hb2.block _ (by omega)).trans L0.out
  have L12:Hid (ansBlk w2 (w.heap.size+1) 0 0 (.slice none 0 0)):=(hb2.block _ (by omega)).trans L1.out
  have hs2:w.heap.size+1 < w2.heap.size:=Nat.lt_of_lt_of_le hs1 hb2.size
  clear r0 r1 r2 r3 r4 r5 r6 r7 r8 hb2 L0 L1 B1 HPO1
  obtain ⟨r0,r1,r2,r3,r4,r5,r6,r7,r8⟩:=HCE.out _ L02.out
  go_wp2_with fail
  refine (tier_is (a:=(x.who.1,x.who.2.1)) hlab hpl).mono ?_
  rintro e w3 ⟨rfl,hb3⟩
  have B3:Hid (Below w.heap.size w w3):=B2.out.trans (hb3.mono B2.out.size)
  have L03:Hid (w3.heap[w.heap.size]?=some (.cells (stepC x).toArray 30 (0,0))):=(hb3.block _ (by omega)).trans L02.out
  have L13:Hid (ansBlk w3 (w.heap.size+1) 0 0 (.slice none 0 0)):=(hb3.block _ (by omega)).trans L12.out
  have hs3:w.heap.size+1 < w3.heap.size:=Nat.lt_of_lt_of_le hs2 hb3.size
  clear r0 r1 r2 r3 r4 r5 r6 r7 r8 hb3 L02 L12 B2
  obtain ⟨r0,r1,r2,r3,r4,r5,r6,r7,r8⟩:=HCE.out _ L03.out
  have kne:=kin_some w3
  have kx2:=kin_cell r2
  go_upto_region 4 with fail
  refine wp_region_kin (by kernel_rfl) (by kernel_rfl) ?_
  repeat (first | go_big_quiet_step (fail) | quiet_step (fail))
  refine wpQuiet_nil ?_
  intro _ hw'
  obtain ⟨xq,hw''⟩:=hw'
  subst hw''
  have B4:Hid (Below w.heap.size w xq.w):=B3.out.trans (xq.h.mono B3.out.size)
  have L04:Hid (xq.w.heap[w.heap.size]?=some (.cells (stepC x).toArray 30 (0,0))):=(xq.h.block _ (by omega)).trans L03.out
  have L14:Hid (ansBlk xq.w (w.heap.size+1) 0 0 (.slice none 0 0)):=(xq.h.block _ (by omega)).trans L13.out
  have hs4:w.heap.size+1 < xq.w.heap.size:=Nat.lt_of_lt_of_le hs3 xq.h.size
  clear kne kx2 r0 r1 r2 r3 r4 r5 r6 r7 r8 L03 L13 B3
  generalize xq.w=w4 at *
  have M4:Hid (PMem w4 p s own G):=M.out.below B4.out
  obtain ⟨r0,r1,r2,r3,r4,r5,r6,r7,r8⟩:=HCE.out _ L04.out
  obtain ⟨e0,e1,e2,f0,f1,f2⟩:=ans_cells L14.out
  have he:=ses_ended (M4.out.sesAt hq hn)
  have hp4:=M4.out.lt
  by_cases hen:((s.t q).ses n).ended=0
  ·rw [hen] at he
   have HAT1:Hid (AT=if x.op=8 then s.pollT q n else if x.op=7 then s.abortT q n else if (s.t q).busyB n then (s,⟨7,0,[]⟩) else if x.op=1 then s.beginT q n else if hasB (s.t q).begun n=false then (s,⟨5,0,[]⟩) else if x.op=6 then s.commitT q n else s.askT q n x):=by
    show _=_
    have:=HAT.out
    rw [if_neg (by rw [hen]; simp)] at this; exact this
   clear hen HAT
   cases h8:(x.op == 8)
   ·have HAT2:Hid (AT=if x.op=7 then s.abortT q n else if (s.t q).busyB n then (s,⟨7,0,[]⟩) else if x.op=1 then s.beginT q n else if hasB (s.t q).begun n=false then (s,⟨5,0,[]⟩) else if x.op=6 then s.commitT q n else s.askT q n x):=by
     show _=_
     have:=HAT1.out
     rw [if_neg (by simpa using h8)] at this; exact this
    cases h7:(x.op == 7)
    ·have HAT3:Hid (AT=if (s.t q).busyB n then (s,⟨7,0,[]⟩) else if x.op=1 then s.beginT q n else if hasB (s.t q).begun n=false then (s,⟨5,0,[]⟩) else if x.op=6 then s.commitT q n else s.askT q n x):=by
      show _=_
      have:=HAT2.out
      rw [if_neg (by simpa using h7)] at this; exact this
     clear HAT1 HAT2
     go_wp2_with fail
     cases hbz:(s.t q).busyB n
     ·have HAT4:Hid (AT=if x.op=1 then s.beginT q n else if hasB (s.t q).begun n=false then (s,⟨5,0,[]⟩) else if x.op=6 then s.commitT q n else s.askT q n x):=by
       show _=_
       have:=HAT3.out
       rw [if_neg (by rw [hbz]; simp)] at this; exact this
      refine (isBusy_is M4.out hq hn hbz).mono ?_
      rintro e w5 ⟨rfl,rfl⟩
      cases h1:(x.op == 1)
      ·have HAT5:Hid (AT=if hasB (s.t q).begun n=false then (s,⟨5,0,[]⟩) else if x.op=6 then s.commitT q n else s.askT q n x):=by
        show _=_
        have:=HAT4.out
        rw [if_neg (by simpa using h1)] at this; exact this
       go_wp2_with fail
       cases hlv:hasB (s.t q).begun n
       ·have HAT6:Hid (AT=(s,⟨5,0,[]⟩)):=by
         show _=_
         have:=HAT5.out
         rw [if_pos hlv] at this; exact this
        refine (isLive_is M4.out hq hlv).mono ?_
        rintro e w5 ⟨rfl,rfl⟩
        obtain ⟨a1,a2⟩:=still_chain M.out B4.out (b:=w.heap.size+1) (by omega) L14.out 5 0
        have A1:Hid (ansBlk _ _ _ _ _):=a1
        have A2:Hid (APost _ _ _ _ _ _):=a2.toA
        clear a1 a2
        go_wp2
        refine ret_ans Try.results28 rfl A1.out rfl ?_
        rw [HAT6.out]; exact A2.out
       ·have HAT6:Hid (AT=if x.op=6 then s.commitT q n else s.askT q n x):=by
         show _=_
         have:=HAT5.out
         rw [if_neg (by rw [hlv]; simp)] at this; exact this
        refine (isLive_is M4.out hq hlv).mono ?_
        rintro e w5 ⟨rfl,rfl⟩
        cases h6:(x.op == 6)
        ·have HAT7:Hid (AT=s.askT q n x):=by
          show _=_
          have:=HAT6.out
          rw [if_neg (by simpa using h6)] at this; exact this
         have hRq:ReqOk q n x:=HASK.out (by simp at h1 h6 h7 h8; omega)
         have hnq:hasB (s.t q).queue n=false:=by unfold Tr.busyB at hbz; simp at hbz; exact hbz.2
         have HAS:Hid (Calls Try.prog 59 #[.pointer (some ⟨p,0,none⟩),.agg #[.int .i64 x.who.1,.int .i64 x.who.2.1,.int .i64 (n:Int),.int .i64 x.op,.int .i64 x.at_.1,.int .i64 x.at_.2,.int .i64 x.key,.int .i64 x.to_,.int .i64 x.value]] w4 (AskPost own w4 p (s.askT q n x).1 (s.askT q n x).2)):=by
          have:=ask_is M4.out hq hn hRq HF.out hnq
          rw [HZ.out] at this; exact this
         clear hRq hnq
         go_wp2_with fail
         refine HAS.out.mono ?_
         generalize s.askT q n x=GT at *
         intro e wz haq
         obtain ⟨ao,cap,rfl,b0,b1,b2⟩:=apost_chain (ChgD.of_below B4.out) (b:=w.heap.size+1) (by omega) (M.out.off (by omega)) L14.out haq
         clear e0 e1 e2 f0 f1 f2
         obtain ⟨e0,e1,e2,f0,f1,f2⟩:=ans_cells b0
         have A1:Hid (ansBlk _ _ _ _ _):=b1
         have A2:Hid (APost _ _ _ _ _ _):=b2
         clear b0 b1 b2 haq r0 r1 r2 r3 r4 r5 r6 r7 r8
         unfold ansV
         go_wp2
         refine ret_ans Try.results28 rfl A1.out rfl ?_
         rw [HAT7.out]; exact A2.out
        ·have HAT7:Hid (AT=s.commitT q n):=by
          show _=_
          have:=HAT6.out
          rw [if_pos (by simpa using h6)] at this; exact this
         go_wp2_with fail
         refine (commit_is (a:=(x.who.1,x.who.2.1,(n:Int))) M4.out hq hn HWO.out HF.out).mono ?_
         generalize s.commitT q n=GT at *
         intro e wz haq
         obtain ⟨ao,cap,rfl,b0,b1,b2⟩:=aq_chain (ChgQ.of_below B4.out) (b:=w.heap.size+1) (by omega) (M.out.off (by omega)) L14.out haq
         clear e0 e1 e2 f0 f1 f2
         obtain ⟨e0,e1,e2,f0,f1,f2⟩:=ans_cells b0
         have A1:Hid (ansBlk _ _ _ _ _):=b1
         have A2:Hid (APost _ _ _ _ _ _):=b2.toA
         clear b0 b1 b2 haq r0 r1 r2 r3 r4 r5 r6 r7 r8
         unfold ansV
         go_wp2
         refine ret_ans Try.results28 rfl A1.out rfl ?_
         rw [HAT7.out]; exact A2.out
      ·have HAT5:Hid (AT=s.beginT q n):=by
        show _=_
        have:=HAT4.out
        rw [if_pos (by simpa using h1)] at this; exact this
       go_wp2_with fail
       refine (begin_is (a:=(x.who.1,x.who.2.1,(n:Int))) M4.out hq HWO.out HF.out).mono ?_
       generalize s.beginT q n=GT at *
       intro e wz haq
       obtain ⟨ao,cap,rfl,b0,b1,b2⟩:=aq_chain (ChgQ.of_below B4.out) (b:=w.heap.size+1) (by omega) (M.out.off (by omega)) L14.out haq
       clear e0 e1 e2 f0 f1 f2
       obtain ⟨e0,e1,e2,f0,f1,f2⟩:=ans_cells b0
       have A1:Hid (ansBlk _ _ _ _ _):=b1
       have A2:Hid (APost _ _ _ _ _ _):=b2.toA
       clear b0 b1 b2 haq r0 r1 r2 r3 r4 r5 r6 r7 r8
       unfold ansV
       go_wp2
       refine ret_ans Try.results28 rfl A1.out rfl ?_
       rw [HAT5.out]; exact A2.out
     ·have HAT4:Hid (AT=(s,⟨7,0,[]⟩)):=by
       show _=_
       have:=HAT3.out
       rw [if_pos hbz] at this; exact this
      refine (isBusy_is M4.out hq hn hbz).mono ?_
      rintro e w5 ⟨rfl,rfl⟩
      obtain ⟨a1,a2⟩:=still_chain M.out B4.out (b:=w.heap.size+1) (by omega) L14.out 7 0
      have A1:Hid (ansBlk _ _ _ _ _):=a1
      have A2:Hid (APost _ _ _ _ _ _):=a2.toA
      clear a1 a2
      go_wp2
      refine ret_ans Try.results28 rfl A1.out rfl ?_
      rw [HAT4.out]; exact A2.out
    ·have HAT3:Hid (AT=s.abortT q n):=by
      show _=_
      have:=HAT2.out
      rw [if_pos (by simpa using h7)] at this; exact this
     go_wp2_with fail
     refine (abort_is (a:=(x.who.1,x.who.2.1,(n:Int))) M4.out hq hn HWO.out HF.out).mono ?_
     generalize s.abortT q n=GT at *
     intro e wz haq
     obtain ⟨ao,cap,rfl,b0,b1,b2⟩:=aq_chain (ChgQ.of_below B4.out) (b:=w.heap.size+1) (by omega) (M.out.off (by omega)) L14.out haq
     clear e0 e1 e2 f0 f1 f2
     obtain ⟨e0,e1,e2,f0,f1,f2⟩:=ans_cells b0
     have A1:Hid (ansBlk _ _ _ _ _):=b1
     have A2:Hid (APost _ _ _ _ _ _):=b2.toA
     clear b0 b1 b2 haq r0 r1 r2 r3 r4 r5 r6 r7 r8
     unfold ansV
     go_wp2
     refine ret_ans Try.results28 rfl A1.out rfl ?_
     rw [HAT3.out]; exact A2.out
   ·have HAT2:Hid (AT=s.pollT q n):=by
     show _=_
     have:=HAT1.out
     rw [if_pos (by simpa using h8)] at this; exact this
    go_wp2_with fail
    refine (poll_is M4.out hq hn).mono ?_
    generalize s.pollT q n=GT at *
    intro e wz haq
    obtain ⟨ao,cap,rfl,b0,b1,b2⟩:=aq_chain (ChgQ.of_below B4.out) (b:=w.heap.size+1) (by omega) (M.out.off (by omega)) L14.out haq
    clear e0 e1 e2 f0 f1 f2
    obtain ⟨e0,e1,e2,f0,f1,f2⟩:=ans_cells b0
    have A1:Hid (ansBlk _ _ _ _ _):=b1
    have A2:Hid (APost _ _ _ _ _ _):=b2.toA
    clear b0 b1 b2 haq r0 r1 r2 r3 r4 r5 r6 r7 r8
    unfold ansV
    go_wp2
    refine ret_ans Try.results28 rfl A1.out rfl ?_
    rw [HAT2.out]; exact A2.out
  ·have HAT1:Hid (AT=(s.untold q n,⟨2,((s.t q).ses n).ended,[]⟩)):=by
    show _=_
    have:=HAT.out
    rw [if_pos hen] at this; exact this
   have hne:(((s.t q).ses n).ended == 0)=false:=by simpa using hen
   have HTE:Hid (Calls Try.prog 52 #[.pointer (some ⟨p,tO q+32+n*79,none⟩)] w4 (AQ own w4 p (s.untold q n) ⟨2,((s.t q).ses n).ended,[]⟩)):=tellEnd_is M4.out hq hn
   clear hen HAT
   generalize ((s.t q).ses n).ended=en at *
   go_wp2_with fail
   refine HTE.out.mono ?_
   generalize s.untold q n=GT at *
   intro e wz haq
   obtain ⟨ao,cap,rfl,b0,b1,b2⟩:=aq_chain (ChgQ.of_below B4.out) (b:=w.heap.size+1) (by omega) (M.out.off (by omega)) L14.out haq
   clear e0 e1 e2 f0 f1 f2
   obtain ⟨e0,e1,e2,f0,f1,f2⟩:=ans_cells b0
   have A1:Hid (ansBlk _ _ _ _ _):=b1
   have A2:Hid (APost _ _ _ _ _ _):=b2.toA
   clear b0 b1 b2 haq r0 r1 r2 r3 r4 r5 r6 r7 r8
   unfold ansV
   go_wp2
   refine ret_ans Try.results28 rfl A1.out rfl ?_
   rw [HAT1.out]; exact A2.out
end Go.Proofs.Ytpbcplfpjcacfaa
