import Derived.Test.YtpbcplfpjcacfaaF10
namespace Go.Proofs.Ytpbcplfpjcacfaa
open Go.RowKit
set_option maxRecDepth 100000
set_option maxHeartbeats 8000000
theorem joinT_is (s:PS) (q n:Nat) (x:Stp):(s.setS q n { (s.t q).ses n with req:=x }).setQ q ((s.t q).queue++[n])=s.setT q ((s.t q).joinT n x):=by
 unfold PS.setS PS.setQ
 rw [setT_t,setT_setT]
 rfl
theorem ChgQ.toD {own own':Own} {w w':World} (h:ChgQ own w w' own'):ChgD own w w' own':=⟨h.os,h.tape,h.output,h.size,h.block,h.fresh⟩
def MovedD (own:Own) (w:World) (p:Nat) (s:PS) (w':World):Prop:=∃ own' G',PMem w' p s own' G'∧ChgD own w w' own'
theorem join_is {w:World} {p q n:Nat} {x:Stp} {s:PS} {own:Own} {G:PG} (m:PMem w p s own G) (hq:q < 32) (hn:n < 4) (hx:x.who.2.2=(n:Int)) (h2:(s.t q).queue.length≤4) :
  Calls Try.prog 79 #[.pointer (some ⟨p,tO q,none⟩),stepV x] w fun e w'=>e=.returned (.tuple #[])∧MovedD own w p (s.setT q ((s.t q).joinT n x)) w':=by
 obtain ⟨⟨x0,x1,x2⟩,x3,⟨x4,x5⟩,x6,x7,x8⟩:=x
 simp only at hx
 subst hx
 have M:Hid (PMem w p s own G):=m
 have hp:=m.lt
 have zn:(n:Int) < 4:=by omega
 clear m
 unfold stepV
 go_enter Try.func79,Try.ntmps79
 go_upto_region 1 with fail
 have B1:Hid (Below w.heap.size w (w.alloc (stpObj ⟨(x0,x1,(n:Int)),x3,(x4,x5),x6,x7,x8⟩))):=(Below.refl _ _).alloc (Nat.le_refl _) _
 have L0:Hid ((w.alloc (stpObj ⟨(x0,x1,(n:Int)),x3,(x4,x5),x6,x7,x8⟩)).heap[w.heap.size]?=some (.cells (stepC ⟨(x0,x1,(n:Int)),x3,(x4,x5),x6,x7,x8⟩).toArray 30 (0,0))):=heap_alloc_new w _
 unfold stpObj at *
 simp only at *
 generalize w.alloc _=W1 at *
 obtain ⟨r0,r1,r2,r3,r4,r5,r6,r7,r8⟩:=stp_cells (loc_stp L0.out)
 simp only [Nat.zero_add] at r0 r1 r2 r3 r4 r5 r6 r7 r8
 have M1:Hid (PMem W1 p s own G):=M.out.below B1.out
 have HS2:Hid (∀ W,Below W1.heap.size W1 W→W.cell? ⟨w.heap.size,0,none⟩=some (.int .i64 x0)∧W.cell? ⟨w.heap.size,1,none⟩=some (.int .i64 x1)∧W.cell? ⟨w.heap.size,2,none⟩=some (.int .i64 (n:Int))∧W.cell? ⟨w.heap.size,3,none⟩=some (.int .i64 x3)∧W.cell? ⟨w.heap.size,4,none⟩=some (.int .i64 x4)∧W.cell? ⟨w.heap.size,5,none⟩=some (.int .i64 x5)∧W.cell? ⟨w.heap.size,6,none⟩=some (.int .i64 x6)∧W.cell? ⟨w.heap.size,7,none⟩=some (.int .i64 x7)∧W.cell? ⟨w.heap.size,8,none⟩=some (.int .i64 x8)):=fun W hB=>⟨cell_later hB r0,cell_later hB r1,cell_later hB r2,cell_later hB r3,cell_later hB r4,cell_later hB r5,cell_later hB r6,cell_later hB r7,cell_later hB r8⟩
 have hS:=HS2.out W1.drew (Below.refl _ _).drew
 have HT:Hid (W1.drew.there p (tO q+32+n*79+65) 9):=(M1.out.below (Below.refl _ _).drew).sesFits hq hn (by decide)
 refine wp_region_Z (z:=9) (S:=fun W=>W.cell? ⟨w.heap.size,0,none⟩=some (.int .i64 x0)∧W.cell? ⟨w.heap.size,1,none⟩=some (.int .i64 x1)∧W.cell? ⟨w.heap.size,2,none⟩=some (.int .i64 (n:Int))∧W.cell? ⟨w.heap.size,3,none⟩=some (.int .i64 x3)∧W.cell? ⟨w.heap.size,4,none⟩=some (.int .i64 x4)∧W.cell? ⟨w.heap.size,5,none⟩=some (.int .i64 x5)∧W.cell? ⟨w.heap.size,6,none⟩=some (.int .i64 x6)∧W.cell? ⟨w.heap.size,7,none⟩=some (.int .i64 x7)∧W.cell? ⟨w.heap.size,8,none⟩=some (.int .i64 x8)) (by kernel_rfl) ?_
 refine zT (i:=0) (v:=?v1) (by decide +kernel) rfl (fun _ _ _ h=>h) hS (.inl ⟨by rfl,?y1⟩) ?_
 case y1=>(rintro wz ⟨zs0,zs1,zs2,zs3,zs4,zs5,zs6,zs7,zs8⟩; go_simp<;>with_reducible rfl)
 simp only [Act.put,z1,z2,z4,z5,z6]
 refine zT (i:=1) (v:=?v2) (by decide +kernel) rfl (fun _ _ _ h=>h) hS (.inl ⟨by rfl,?y2⟩) ?_
 case y2=>(rintro wz ⟨zs0,zs1,zs2,zs3,zs4,zs5,zs6,zs7,zs8⟩; go_simp<;>with_reducible rfl)
 simp only [Act.put,z1,z2,z3,z4,z5,z6]
 refine zT (i:=2) (v:=?v3) (by decide +kernel) rfl (fun _ _ _ h=>h) hS (.inl ⟨by rfl,?y3⟩) ?_
 case y3=>(rintro wz ⟨zs0,zs1,zs2,zs3,zs4,zs5,zs6,zs7,zs8⟩; go_simp<;>with_reducible rfl)
 simp only [Act.put,z1,z2,z3,z4,z5,z6]
 refine zT (i:=3) (v:=?v4) (by decide +kernel) rfl (fun _ _ _ h=>h) hS (.inl ⟨by rfl,?y4⟩) ?_
 case y4=>(rintro wz ⟨zs0,zs1,zs2,zs3,zs4,zs5,zs6,zs7,zs8⟩; go_simp<;>with_reducible rfl)
 simp only [Act.put,z1,z2,z3,z4,z5,z6]
 refine zT (i:=4) (v:=?v5) (by decide +kernel) rfl (fun _ _ _ h=>h) hS (.inl ⟨by rfl,?y5⟩) ?_
 case y5=>(rintro wz ⟨zs0,zs1,zs2,zs3,zs4,zs5,zs6,zs7,zs8⟩; go_simp<;>with_reducible rfl)
 simp only [Act.put,z1,z2,z3,z4,z5,z6]
 refine wpAnyZ_one (i:=5) (by decide +kernel) rfl (fun K hK=>?_)
 go_simp
 refine hK _ _ (fun _=>hS) ?_
 clear hK
 refine wpAnyZ_one (i:=6) (by decide +kernel) rfl (fun K hK=>?_)
 go_simp
 refine hK _ _ (fun _=>hS) ?_
 clear hK
 refine wpAnyZ_one (i:=7) (by decide +kernel) rfl (fun K hK=>?_)
 go_simp
 refine hK _ _ (fun _=>hS) ?_
 clear hK
 refine wpAnyZ_one (i:=8) (by decide +kernel) rfl (fun K hK=>?_)
 go_simp
 refine hK _ _ (fun _=>hS) ?_
 clear hK
 refine wpAnyZ_one (i:=9) (by decide +kernel) rfl (fun K hK=>?_)
 rw [if_pos (by rfl)]
 refine wp_store_mid 30 _ _ rfl p (tO q+32+n*79+65) (stepC ⟨(x0,x1,(n:Int)),x3,(x4,x5),x6,x7,x8⟩).toArray rfl rfl HT.out size_step (stp_one _) (hK _ _ (fun h=>absurd rfl h) ?_)
 clear hK
 refine wpAnyZ_done (by decide +kernel) ?_ _
 simp only
 obtain ⟨m2,cg2⟩:=(M1.out.below (Below.refl _ _).drew).setReq hq hn ⟨(x0,x1,(n:Int)),x3,(x4,x5),x6,x7,x8⟩
 have L2:Hid ((W1.drew.setCells p (tO q+32+n*79+65) (stepC ⟨(x0,x1,(n:Int)),x3,(x4,x5),x6,x7,x8⟩)).heap[w.heap.size]?=_):=(setCells_other _ _ _ _ (by omega)).trans L0.out
 have M2:Hid (PMem (W1.drew.setCells p (tO q+32+n*79+65) (stepC ⟨(x0,x1,(n:Int)),x3,(x4,x5),x6,x7,x8⟩)) p _ own _):=m2
 have CG2:Hid (ChgQ own w (W1.drew.setCells p (tO q+32+n*79+65) (stepC ⟨(x0,x1,(n:Int)),x3,(x4,x5),x6,x7,x8⟩)) own):=(ChgQ.of_below (B1.out.drew)).trans cg2
 clear m2 cg2 L0 HT hS HS2 M1 r0 r1 r2 r3 r4 r5 r6 r7 r8 B1
 generalize W1.drew.setCells p (tO q+32+n*79+65) (stepC ⟨(x0,x1,(n:Int)),x3,(x4,x5),x6,x7,x8⟩)=W2 at *
 have HJ:Hid ((s.setS q n { (s.t q).ses n with req:=⟨(x0,x1,(n:Int)),x3,(x4,x5),x6,x7,x8⟩ }).setQ q ((s.t q).queue++[n])=s.setT q ((s.t q).joinT n ⟨(x0,x1,(n:Int)),x3,(x4,x5),x6,x7,x8⟩)):=joinT_is s q n _
 have E2:Hid (((s.setS q n { (s.t q).ses n with req:=⟨(x0,x1,(n:Int)),x3,(x4,x5),x6,x7,x8⟩ }).t q).queue=(s.t q).queue):=by show _=_; unfold PS.setS; rw [setT_t]; rfl
 generalize s.setS q n { (s.t q).ses n with req:=⟨(x0,x1,(n:Int)),x3,(x4,x5),x6,x7,x8⟩ }=s2 at *
 generalize G.setS q n (G.s q n)=G2 at *
 obtain ⟨_,_,d2,_⟩:=stp_cells (loc_stp L2.out)
 simp only [Nat.zero_add] at d2
 have hrow:=M2.out.queR q hq
 obtain ⟨ao,cap,hv,hmax⟩:=hrow.lens len_natC
 have hc:=M2.out.queC hq
 have hfz:=M2.out.froz (tO q+349)
 have HV:Hid (G2.q q=.slice ao (s2.t q).queue.length cap):=hv
 rw [hv] at hc hrow
 have HROW:Hid (Row W2 own (queTag q) 3 1 (.slice ao (s2.t q).queue.length cap) (s2.t q).queue natC):=hrow
 have hl4:(s2.t q).queue.length≤4:=by rw [E2.out]; exact h2
 have hp2:=M2.out.lt
 have hsz2:w.heap.size < W2.heap.size:=(Array.getElem?_eq_some_iff.1 L2.out).1
 have HNO:Hid (∀ k,w.heap.size≤k→own k=none):=fun k hk=>M.out.off hk
 clear hv hrow hmax
 obtain ⟨i0,hi0,hz0,hs0,hb0⟩:=info_all infoI
 go_upto_region 2 with fail
 have hS:(fun W:World=>W.cell? ⟨p,tO q+349,none⟩=some (.slice ao (s2.t q).queue.length cap)∧W.cell? ⟨w.heap.size,2,none⟩=some (.int .i64 (n:Int))) W2.drew:=⟨hc,d2⟩
 refine wp_region_Z (z:=12) (S:=fun W=>W.cell? ⟨p,tO q+349,none⟩=some (.slice ao (s2.t q).queue.length cap)∧W.cell? ⟨w.heap.size,2,none⟩=some (.int .i64 (n:Int))) (by kernel_rfl) ?_
 refine zT (i:=0) (v:=?v6) (by decide +kernel) rfl (fun _ _ _ h=>h) hS (.inl ⟨by rfl,?y6⟩) ?_
 case y6=>(rintro wz ⟨zs0,zs1⟩; go_simp<;>with_reducible rfl)
 simp only [Act.put,z1,z2,z4]
 refine zT (i:=1) (v:=?v7) (by decide +kernel) rfl (fun _ _ _ h=>h) hS (.inl ⟨by rfl,?y7⟩) ?_
 case y7=>(rintro wz ⟨zs0,zs1⟩; go_simp<;>with_reducible rfl)
 simp only [Act.put,z1,z2,z3,z4,z5,z6]
 refine zT (i:=2) (v:=?v8) (by decide +kernel) rfl (fun _ _ _ h=>h) hS (.inl ⟨by rfl,?y8⟩) ?_
 case y8=>(rintro wz ⟨zs0,zs1⟩; go_simp<;>with_reducible rfl)
 simp only [Act.put,z1,z2,z3,z4,z5,z6]
 refine zT (i:=3) (v:=?v9) (by decide +kernel) rfl (fun _ _ _ h=>h) hS (.inl ⟨by rfl,?y9⟩) ?_
 case y9=>(rintro wz ⟨zs0,zs1⟩; go_simp<;>with_reducible rfl)
 simp only [Act.put,z1,z2,z3,z4,z5,z6]
 refine zT (i:=4) (v:=?v10) (by decide +kernel) rfl (fun _ _ _ h=>h) hS (.inl ⟨by rfl,?y10⟩) ?_
 case y10=>(rintro wz ⟨zs0,zs1⟩; go_simp<;>with_reducible rfl)
 simp only [Act.put,z1,z2,z3,z4,z5,z6]
 refine zT (i:=5) (v:=?v11) (by decide +kernel) rfl (fun _ _ _ h=>h) hS (.inl ⟨by rfl,?y11⟩) ?_
 case y11=>(rintro wz ⟨zs0,zs1⟩; go_simp<;>with_reducible rfl)
 simp only [Act.put,z1,z2,z3,z4,z5,z6]
 refine zT (i:=6) (v:=?v12) (by decide +kernel) rfl (fun _ _ _ h=>h) hS (.inl ⟨by rfl,?y12⟩) ?_
 case y12=>(rintro wz ⟨zs0,zs1⟩; go_simp<;>with_reducible rfl)
 simp only [Act.put,z1,z2,z3,z4,z5,z6]
 refine zT (i:=7) (v:=?v13) (by decide +kernel) rfl (fun _ _ _ h=>h) hS (.inl ⟨by rfl,?y13⟩) ?_
 case y13=>(rintro wz ⟨zs0,zs1⟩; go_simp<;>with_reducible rfl)
 simp only [Act.put,z1,z2,z3,z4,z5,z6]
 have hx4:(W2.alloc (.cells #[.int .i64 (n:Int)] 3)).drew.cell? ⟨p,tO q+349,none⟩=some (.slice ao (s2.t q).queue.length cap):=by
  rw [World.cell?_drew,World.cell?_alloc_lt _ _ _ (by exact hp2)]; exact hc
 have hxk:(W2.alloc (.cells #[.int .i64 (n:Int)] 3)).drew.cell? ⟨w.heap.size,2,none⟩=some (.int .i64 (n:Int)):=by
  rw [World.cell?_drew,World.cell?_alloc_lt _ _ _ (by exact hsz2)]; exact d2
 refine wpAnyZ_one (i:=8) (by decide +kernel) rfl (fun K hK=>?_)
 go_simp
 refine hK _ _ (fun _=>⟨hx4,hxk⟩) ?_
 clear hK
 refine wpAnyZ_one (i:=9) (by decide +kernel) rfl (fun K hK=>?_)
 refine step_append_lies _ (by rfl) _ _ _ (by rfl) 0 3 i0 _ 1 8 Try.underlying49 hi0 hz0 hs0 hb0 rfl (by omega) (.slice ao (s2.t q).queue.length cap) (s2.t q).queue.length ((s2.t q).queue.flatMap natC) (by rfl) ((HROW.out.1.alloc _).drew)
  ⟨W2.heap.size,0,none⟩ 1 1 [.int .i64 (n:Int)] (by rfl) (by rfl) (World.news_of_block (cs:=#[.int .i64 (n:Int)]) (t:=3) (fr:=(0,0)) (heap_alloc_new W2 _)) (by simp [Value.oneCell'])
  (by omega) (by unfold maxLen; omega) (by omega) (Nat.zero_le _) (W2.heap.size+1) (by simp) ?_
 intro gg cap' w4 hown1 hgrow hat hlt1
 simp only [Act.put,List.getElem_toArray,List.getElem_cons_zero,List.getElem_cons_succ,List.setIfInBounds_toArray,List.set_cons_zero,List.set_cons_succ]
 have nr:(Value.slice ao (s2.t q).queue.length cap).ownBlock≠some p:=fun e=>by
  have:=HROW.out.2 p e; rw [M2.out.tag] at this; simp [rootTag,queTag] at this
 have nx:(Value.slice ao (s2.t q).queue.length cap).ownBlock≠some w.heap.size:=fun e=>by
  have:=HROW.out.2 _ e; rw [HNO.out _ (Nat.le_refl _)] at this; cases this
 have q4:w4.cell? ⟨p,tO q+349,none⟩=some (.slice ao (s2.t q).queue.length cap):=hgrow.cell hx4 (Ne.symm nr)
 have qk:w4.cell? ⟨w.heap.size,2,none⟩=some (.int .i64 (n:Int)):=hgrow.cell hxk (Ne.symm nx)
 have fo:w4.frozen? ⟨p,tO q+349,none⟩=false:=by
  rw [World.frozen?_of_block (hgrow.block p (by simp; omega) (Ne.symm nr))]
  rw [World.frozen?_drew,World.frozen?_alloc_past _ _ _ (by omega)]; exact hfz
 refine hK _ _ (fun _=>⟨q4,qk⟩) ?_
 clear hK
 refine wpAnyZ_one (i:=10) (by decide +kernel) rfl (fun K hK=>?_)
 go_simp
 refine hK _ _ (fun _=>⟨q4,qk⟩) ?_
 clear hK
 refine wpAnyZ_one (i:=11) (by decide +kernel) rfl (fun K hK=>?_)
 go_simp
 refine hK _ _ (fun _=>⟨q4,qk⟩) ?_
 clear hK
 refine wpAnyZ_one (i:=12) (by decide +kernel) rfl (fun K hK=>?_)
 go_simp
 refine hK _ _ (fun h=>absurd rfl h) ?_
 clear hK
 refine wpAnyZ_done (by decide +kernel) ?_ _
 rw [← HV.out] at hgrow hat
 obtain ⟨m5,cg5⟩:=M2.out.appQue hq (W:=(W2.alloc (.cells #[.int .i64 (n:Int)] 3)).drew) (x:=n) (H:=W2.heap.size+1) (fun k hk=>Below.heap_alloc _ _ _ hk) (by simp) rfl rfl rfl hgrow hown1 hat (by omega) hlt1
 refine bodyPost_end (v:=.tuple #[]) (by simp [results,Try.results79,go_sem]) rfl ⟨rfl,?_⟩
 rw [E2.out,HJ.out] at m5
 rw [E2.out] at cg5
 rw [E2.out]
 exact ⟨_,_,m5,CG2.out.toD.trans cg5⟩
theorem wrC_at0 (x:Wrt) {k:Nat} (hk:k < 16):(wrC x)[k]?=some (.bool (x.touched k)):=by
 unfold wrC; rw [List.getElem?_append_left (by rw [len_flagC]; exact hk)]; exact flagC_at _ hk
theorem wrC_at2 (x:Wrt) {k:Nat} (hk:k < 16):(wrC x)[48+k]?=some (.bool (x.put k)):=by
 unfold wrC
 rw [List.getElem?_append_right (by rw [len_flagC]; omega),List.getElem?_append_right (by rw [len_flagC,len_tabV]; omega),len_flagC,len_tabV,show 48+k - 16 - 32=k by omega]
 exact flagC_at _ hk
section
variable {w:World} {p q n k:Nat} {s:PS} {own:Own} {G:PG}
theorem PMem.touchC (m:PMem w p s own G) (hq:q < 32) (hn:n < 4) (hk:k < 16):w.cell? ⟨p,tO q+32+n*79+1+k,none⟩=some (.bool (((s.t q).ses n).wr.touched k)) :=
 ses_wr (m.sesAt hq hn) k _ (wrC_at0 _ hk)
theorem PMem.putC (m:PMem w p s own G) (hq:q < 32) (hn:n < 4) (hk:k < 16):w.cell? ⟨p,tO q+32+n*79+1+48+k,none⟩=some (.bool (((s.t q).ses n).wr.put k)):=by
 have:=ses_wr (m.sesAt hq hn) (48+k) _ (wrC_at2 _ hk)
 rw [← Nat.add_assoc] at this
 exact this
theorem PMem.setTouch (m:PMem w p s own G) (hq:q < 32) (hn:n < 4) (hk:k < 16) (b:Bool):PMem (w.setCell ⟨p,tO q+32+n*79+1+k,none⟩ (.bool b)) p (s.setW q n { ((s.t q).ses n).wr with touched:=upd ((s.t q).ses n).wr.touched k b }) own (G.setS q n (G.s q n))∧ChgQ own w (w.setCell ⟨p,tO q+32+n*79+1+k,none⟩ (.bool b)) own:=by
 have:=m.put1 hq hn { (s.t q).ses n with wr:={ ((s.t q).ses n).wr with touched:=upd ((s.t q).ses n).wr.touched k b } } (i:=1+k) (v:=.bool b) (by omega) (sesC_wr _ _ _ k _ (by omega) (wrC_touched _ hk b)) rfl rfl
 rw [← Nat.add_assoc] at this
 exact this
theorem PMem.setPut (m:PMem w p s own G) (hq:q < 32) (hn:n < 4) (hk:k < 16) (b:Bool):PMem (w.setCell ⟨p,tO q+32+n*79+1+48+k,none⟩ (.bool b)) p (s.setW q n { ((s.t q).ses n).wr with put:=upd ((s.t q).ses n).wr.put k b }) own (G.setS q n (G.s q n))∧ChgQ own w (w.setCell ⟨p,tO q+32+n*79+1+48+k,none⟩ (.bool b)) own:=by
 have:=m.put1 hq hn { (s.t q).ses n with wr:={ ((s.t q).ses n).wr with put:=upd ((s.t q).ses n).wr.put k b } } (i:=1+(48+k)) (v:=.bool b) (by omega) (sesC_wr _ _ _ (48+k) _ (by omega) (wrC_put _ b)) rfl rfl
 rw [← Nat.add_assoc,← Nat.add_assoc] at this
 exact this
theorem PMem.setLeft (m:PMem w p s own G) (hq:q < 32) (hn:n < 4) (hk:k < 16) (v:Option Int):PMem (w.setCells p (tO q+32+n*79+1+16+k*2) [.bool v.isSome,.int .i64 (v.getD 0)]) p (s.setW q n { ((s.t q).ses n).wr with left:=upd ((s.t q).ses n).wr.left k v }) own (G.setS q n (G.s q n))∧ChgQ own w (w.setCells p (tO q+32+n*79+1+16+k*2) [.bool v.isSome,.int .i64 (v.getD 0)]) own:=by
 obtain ⟨A,Z,e1,e2,e3⟩:=tabV_split ((s.t q).ses n).wr.left hk v
 have hs:slotV (upd ((s.t q).ses n).wr.left k v) k=[.bool v.isSome,.int .i64 (v.getD 0)]:=by unfold slotV; rw [upd_same]
 rw [hs] at e2
 have h:=m.putSes hq hn { (s.t q).ses n with wr:={ ((s.t q).ses n).wr with left:=upd ((s.t q).ses n).wr.left k v } } (G.s q n) (1+(16+k*2)) [.bool v.isSome,.int .i64 (v.getD 0)]
  (A:=[(G.s q n).1]++(flagC ((s.t q).ses n).wr.touched++A)) (M:=slotV ((s.t q).ses n).wr.left k) (Z:=Z++(flagC ((s.t q).ses n).wr.put++(stepC ((s.t q).ses n).req++([.bool ((s.t q).ses n).came]++(outC ((s.t q).ses n).out (G.s q n).2++[.int .i64 ((s.t q).ses n).ended])))))
  (by simp [sesC,wrC,e1]) (by simp [sesC,wrC,e2]) (by simp [len_flagC,e3]; omega) rfl (fun _ _ h _ _=>h) (fun _ _ h=>h) (m.lockR q hq n hn) (m.outR q hq n hn)
 rw [← Nat.add_assoc,← Nat.add_assoc] at h
 exact h
end
theorem setW_setW (s:PS) (q n:Nat) (x y:Wrt):(s.setW q n x).setW q n y=s.setW q n y:=by
 unfold PS.setW; rw [setS_at,setS_setS]
theorem setW_wr (s:PS) (q n:Nat) (x:Wrt):(((s.setW q n x).t q).ses n).wr=x:=by
 unfold PS.setW; rw [setS_at]
theorem size_slot:(Try.prog.info? 119).map (·.size)=some 2:=by kernel_rfl
theorem slot_one (b:Bool) (v:Int):(#[.bool b,.int .i64 v]:Array Value).all (·.oneCell')=true:=all_oneCell_toArray (cs:=[.bool b,.int .i64 v]) (by simp [Value.oneCell'])
theorem wrPut_is {w:World} {p q n k:Nat} {v:Int} {s:PS} {own:Own} {G:PG} (m:PMem w p s own G) (hq:q < 32) (hn:n < 4) (hk:k < 16) :
  Calls Try.prog 119 #[.pointer (some ⟨p,tO q+32+n*79+1,none⟩),.int .i64 k,.int .i64 v] w fun e w'=>e=.returned (.tuple #[])∧Moved own w p (s.setW q n (((s.t q).ses n).wr.putT k v)) w':=by
 have M:Hid (PMem w p s own G):=m
 have hp:=m.lt
 have c0:=m.touchC hq hn hk
 have f0:=m.froz (tO q+32+n*79+1+k)
 have zk:(k:Int) < 16:=by omega
 obtain ⟨m1,cg1⟩:=m.setTouch hq hn hk true
 have M1:Hid (PMem _ _ _ _ _):=m1
 have CG1:Hid (ChgQ _ _ _ _):=cg1
 clear m m1 cg1
 go_enter Try.func119,Try.ntmps119
 go_wp2_with fail
 refine (isKey_any k w (by omega)).mono ?_
 rintro e w1 ⟨rfl,rfl⟩
 go_upto_region 2 with fail
 generalize w.setCell ⟨p,tO q+32+n*79+1+k,none⟩ (.bool true)=W1 at *
 have c1:=M1.out.putC hq hn hk
 have f1:=M1.out.froz (tO q+32+n*79+1+48+k)
 have hp1:=M1.out.lt
 obtain ⟨m2,cg2⟩:=M1.out.setPut hq hn hk true
 rw [setW_wr,setW_setW] at m2
 have M2:Hid (PMem _ _ _ _ _):=m2
 have CG2:Hid (ChgQ _ _ _ _):=CG1.out.trans cg2
 clear m2 cg2 c0 f0
 go_upto_region 3 with fail
 generalize W1.setCell ⟨p,tO q+32+n*79+1+48+k,none⟩ (.bool true)=W2 at *
 have hp2:=M2.out.lt
 obtain ⟨m3,cg3⟩:=M2.out.setLeft hq hn hk (some v)
 rw [setW_wr,setW_setW] at m3
 have M3:Hid (PMem _ _ _ _ _):=m3
 have CG3:Hid (ChgQ _ _ _ _):=CG2.out.trans cg3
 have HT:Hid (W2.there p (tO q+32+n*79+1+16+k*2) 2):=M2.out.there (by unfold tO; omega)
 clear m3 cg3 c1 f1
 go_wp2_with (first | (refine wpList_store_mid rfl 119 _ _ rfl p (tO q+32+n*79+1+16+k*2) #[.bool true,.int .i64 v] rfl rfl HT.out size_slot (slot_one _ _) ?_))
 refine bodyPost_end (v:=.tuple #[]) (by simp [results,Try.results119,go_sem]) rfl ⟨rfl,?_⟩
 exact ⟨_,_,M3.out,CG3.out⟩
theorem wrDel_is {w:World} {p q n k:Nat} {s:PS} {own:Own} {G:PG} (m:PMem w p s own G) (hq:q < 32) (hn:n < 4) (hk:k < 16) :
  Calls Try.prog 98 #[.pointer (some ⟨p,tO q+32+n*79+1,none⟩),.int .i64 k] w fun e w'=>e=.returned (.tuple #[])∧Moved own w p (s.setW q n (((s.t q).ses n).wr.delT k)) w':=by
 have M:Hid (PMem w p s own G):=m
 have hp:=m.lt
 have c0:=m.touchC hq hn hk
 have f0:=m.froz (tO q+32+n*79+1+k)
 have zk:(k:Int) < 16:=by omega
 obtain ⟨m1,cg1⟩:=m.setTouch hq hn hk true
 have M1:Hid (PMem _ _ _ _ _):=m1
 have CG1:Hid (ChgQ _ _ _ _):=cg1
 clear m m1 cg1
 go_enter Try.func98,Try.ntmps98
 go_wp2_with fail
 refine (isKey_any k w (by omega)).mono ?_
 rintro e w1 ⟨rfl,rfl⟩
 go_upto_region 2 with fail
 generalize w.setCell ⟨p,tO q+32+n*79+1+k,none⟩ (.bool true)=W1 at *
 have hp1:=M1.out.lt
 obtain ⟨m3,cg3⟩:=M1.out.setLeft hq hn hk none
 rw [setW_wr,setW_setW] at m3
 have M3:Hid (PMem _ _ _ _ _):=m3
 have CG3:Hid (ChgQ _ _ _ _):=CG1.out.trans cg3
 have HT:Hid (W1.there p (tO q+32+n*79+1+16+k*2) 2):=M1.out.there (by unfold tO; omega)
 clear m3 cg3 c0 f0
 go_wp2_with (first | (refine wpList_store_mid rfl 119 _ _ rfl p (tO q+32+n*79+1+16+k*2) #[.bool false,.int .i64 0] rfl rfl HT.out size_slot (slot_one _ _) ?_))
 refine bodyPost_end (v:=.tuple #[]) (by simp [results,Try.results98,go_sem]) rfl ⟨rfl,?_⟩
 exact ⟨_,_,M3.out,CG3.out⟩
def Wrt.overTo (x:Wrt) (f:Nat→Option Int) (k:Nat):Nat→Option Int:=fun j=>if j < k∧x.touched j=true then x.left j else f j
theorem overTo_zero (x:Wrt) (f:Nat→Option Int):x.overTo f 0=f:=by funext j; simp [Wrt.overTo]
theorem overTo_hit (x:Wrt) (f:Nat→Option Int) {k:Nat} (h:x.touched k=true):x.overTo f (k+1)=upd (x.overTo f k) k (x.left k):=by
 funext j
 unfold Wrt.overTo upd
 by_cases e:j=k
 ·subst e; simp [h]
 ·simp only [e,if_false]
  by_cases hj:j < k
  ·simp [hj,show j < k+1 by omega]
  ·simp [hj,show ¬ j < k+1 by omega]
theorem overTo_miss (x:Wrt) (f:Nat→Option Int) {k:Nat} (h:x.touched k=false):x.overTo f (k+1)=x.overTo f k:=by
 funext j
 unfold Wrt.overTo
 by_cases e:j=k
 ·subst e; simp [h]
 ·by_cases hj:j < k
  ·simp [hj,show j < k+1 by omega]
  ·simp [hj,show ¬ j < k+1 by omega]
theorem tabV_cong {f g:Nat→Option Int} (h:∀ k,k < 16→f k=g k):tabV f=tabV g:=by
 unfold tabV
 refine flatMap_cg (fun k hk=>?_)
 unfold slotV
 rw [h k (List.mem_range.1 hk)]
theorem overTo_all (x:Wrt) (f:Nat→Option Int):tabV (x.overTo f 16)=tabV (x.over f):=tabV_cong (fun k hk=>by unfold Wrt.overTo Wrt.over; simp [hk])
theorem size_tab:(Try.prog.info? 122).map (·.size)=some 32:=by kernel_rfl
theorem size_flag:(Try.prog.info? 117).map (·.size)=some 16:=by kernel_rfl
theorem size_bool:(Try.prog.info? 4).map (·.size)=some 1:=by kernel_rfl
def TabAt (w:World) (b:Nat) (f:Nat→Option Int):Prop:=(∃ C,w.heap[b]?=some (.cells C 122 (0,0))∧C.size=32)∧w.rangeAt b 0 (tabV f)
theorem TabAt.there {w:World} {b:Nat} {f:Nat→Option Int} (h:TabAt w b f) {o n:Nat} (hn:o+n≤32):w.there b o n:=fun j hj=>by
 obtain ⟨C,hC,hz⟩:=h.1
 refine ⟨?_,frozen_of_row w b _ C _ hC⟩
 rw [cell_of_row w b _ C _ _ hC,Array.getElem?_eq_getElem (by omega)]; rfl
theorem TabAt.frame {w w':World} {b:Nat} {f:Nat→Option Int} (h:TabAt w b f) (hk:w'.heap[b]?=w.heap[b]?):TabAt w' b f :=
 ⟨by rw [hk]; exact h.1,fun j u hj=>(cell_of_same hk _).trans (h.2 j u hj)⟩
theorem TabAt.set {w:World} {b k:Nat} {f:Nat→Option Int} (h:TabAt w b f) (hk:k < 16) (v:Option Int):TabAt (w.setCells b (k*2) [.bool v.isSome,.int .i64 (v.getD 0)]) b (upd f k v):=by
 obtain ⟨C,hC,hz⟩:=h.1
 obtain ⟨C',hC',hz'⟩:=setCells_root [.bool v.isSome,.int .i64 (v.getD 0)] (k*2) w C hC
 obtain ⟨A,Z,e1,e2,e3⟩:=tabV_split f hk v
 have hs:slotV (upd f k v) k=[.bool v.isSome,.int .i64 (v.getD 0)]:=by unfold slotV; rw [upd_same]
 rw [hs] at e2
 refine ⟨⟨C',hC',by omega⟩,?_⟩
 have:=rangeAt_splice h.2 e1 e2 e3 rfl (h.there (by simp; omega))
 rw [Nat.zero_add] at this
 exact this
theorem TabAt.new {w:World} {f:Nat→Option Int}:TabAt (w.alloc (.cells (tabV f).toArray 122)) w.heap.size f :=
 ⟨⟨_,heap_alloc_new w _,by rw [List.size_toArray,len_tabV]⟩,fun j u hj=>by
  rw [cell_of_row _ _ _ _ _ _ (heap_alloc_new w _),Nat.zero_add]; simpa using hj⟩
theorem index_flag (f:Nat→Bool) (k:Nat) (h:k < 16) (w:World) :
  (Instr.index 117 (.agg (flagC f).toArray) (.int .i64 k)).run Try.prog w=.ok (.bool (f k)) w:=by
 obtain ⟨i,hi,hs⟩:=info_of size_bool
 simp [Instr.index,asIntOf,run_underlying Try.underlying117,sizeOf,typeInfo,hi,hs,part]
 rw [if_pos h,flagC_at f h]
 rfl
theorem tab_one (f:Nat→Option Int):(tabV f).toArray.all (·.oneCell')=true:=all_oneCell_toArray (by
 intro v hv
 unfold tabV at hv
 obtain ⟨k,_,hk⟩:=List.mem_flatMap.1 hv
 simp [slotV] at hk
 rcases hk with rfl | rfl<;>rfl)
theorem left_cells {w:World} {p o k:Nat} {x:Wrt} (h:w.rangeAt p o (wrC x)) (hk:k < 16):w.cell? ⟨p,o+16+k*2,none⟩=some (.bool (x.left k).isSome)∧w.cell? ⟨p,o+16+k*2+1,none⟩=some (.int .i64 ((x.left k).getD 0)):=by
 obtain ⟨a,b⟩:=tabV_get x.left k hk
 have e:∀ j,j < 32→(wrC x)[16+j]?=(tabV x.left)[j]?:=fun j hj=>by
  unfold wrC
  rw [List.getElem?_append_right (by rw [len_flagC]; omega),len_flagC,List.getElem?_append_left (by rw [len_tabV]; omega),Nat.add_sub_cancel_left]
 constructor
 ·have:=h (16+2*k) _ ((e _ (by omega)).trans a)
  rw [show o+16+k*2=o+(16+2*k) by omega]; exact this
 ·have:=h (16+(2*k+1)) _ ((e _ (by omega)).trans b)
  rw [show o+16+k*2+1=o+(16+(2*k+1)) by omega]; exact this
theorem below_setCells {B b:Nat} {a:World} (hb:B≤b):∀ (vs:List Value) (o:Nat) (w:World),Below B a w→Below B a (w.setCells b o vs)
 | [],_,_,h=>h
 | v :: vs,o,_,h=>below_setCells hb vs (o+1) _ (h.setCell (p:=⟨b,o,none⟩) hb v)
def TabPost (w:World) (f:Nat→Option Int) (e:Ending) (w':World):Prop:=e=.returned (.agg (tabV f).toArray)∧Below w.heap.size w w'
theorem over_is {w:World} {p o:Nat} {x:Wrt} {f:Nat→Option Int} (hr:w.rangeAt p o (wrC x)) (hp:p < w.heap.size) :
  Calls Try.prog 73 #[.pointer (some ⟨p,o,none⟩),.agg (tabV f).toArray] w (TabPost w (x.over f)):=by
 have HR:Hid (w.rangeAt p o (wrC x)):=hr
 have hfl:w.rangeAt p o (flagC x.touched):=fun j u hj=>hr j u (by
  have:j < 16:=by rw [← len_flagC x.touched]; exact (List.getElem?_eq_some_iff.1 hj).1
  unfold wrC; rw [List.getElem?_append_left (by rw [len_flagC]; exact this)]; exact hj)
 clear hr
 go_enter Try.func73,Try.ntmps73
 go_upto_region 1 with fail
 have hsz:(w.alloc (.cells (tabV f).toArray 122)).heap.size=w.heap.size+1:=by simp
 have T1:Hid (TabAt ((w.alloc (.cells (tabV f).toArray 122)).alloc (.cells (tabV (fun _=>none)).toArray 122)) w.heap.size f):=TabAt.new.frame (heap_alloc_old (by simp))
 have T2:Hid (TabAt ((w.alloc (.cells (tabV f).toArray 122)).alloc (.cells (tabV (fun _=>none)).toArray 122)) (w.heap.size+1) (fun _=>none)):=by
  show TabAt _ _ _
  rw [← hsz]; exact TabAt.new
 have B1:Hid (Below w.heap.size w ((w.alloc (.cells (tabV f).toArray 122)).alloc (.cells (tabV (fun _=>none)).toArray 122))):=below2r
 rw [show (.cells #[Value.bool false,Value.int IntKind.i64 0,Value.bool false,Value.int IntKind.i64 0,Value.bool false,Value.int IntKind.i64 0,Value.bool false,Value.int IntKind.i64 0,Value.bool false,Value.int IntKind.i64 0,Value.bool false,Value.int IntKind.i64 0,Value.bool false,Value.int IntKind.i64 0,Value.bool false,Value.int IntKind.i64 0,Value.bool false,Value.int IntKind.i64 0,Value.bool false,Value.int IntKind.i64 0,Value.bool false,Value.int IntKind.i64 0,Value.bool false,Value.int IntKind.i64 0,Value.bool false,Value.int IntKind.i64 0,Value.bool false,Value.int IntKind.i64 0,Value.bool false,Value.int IntKind.i64 0,Value.bool false,Value.int IntKind.i64 0] 122:Obj)=.cells (tabV (fun _=>none)).toArray 122 from rfl]
 clear hsz
 generalize (w.alloc (.cells (tabV f).toArray 122)).alloc (.cells (tabV (fun _=>none)).toArray 122)=W1 at *
 have hfl1:W1.rangeAt p o (flagC x.touched):=rangeAt_below hfl B1.out hp
 clear hfl
 go_wp2_with (first | (refine wpList_load_mid rfl 117 _ rfl p o rfl (flagC x.touched) _ hfl1 Try.underlying117 rfl (by rw [len_flagC]; exact size_flag) ?_))
 clear hfl1
 have hI0:Hid (TabAt W1 w.heap.size (x.overTo f 0)):=by show TabAt _ _ _; rw [overTo_zero]; exact T1.out
 go_loopw [11] (fun i wr=>∃ k:Nat,k≤16∧i=.int .i64 k∧Hid (TabAt wr w.heap.size (x.overTo f k))∧Hid (TabAt wr (w.heap.size+1) (fun _=>none))∧Hid (Below w.heap.size w wr)) (fun i _=>16 - (intOf i).toNat)
 case atStart=>exact ⟨0,Nat.zero_le _,rfl,hI0,T2,B1⟩
 case round =>
  obtain ⟨k,hk,rfl,I1,I2,IB⟩:=hrel
  by_cases hlt:k < 16
  ·have zk:(k:Int) < 16:=by omega
   have hix:=index_flag x.touched k hlt
   cases ht:x.touched k
   ·rw [ht] at hix
    have J1:Hid (TabAt wr w.heap.size (x.overTo f (k+1))):=by show TabAt _ _ _; rw [overTo_miss x f ht]; exact I1.out
    go_wp2
    go_roundw
    case rel=>exact ⟨k+1,by omega,by go_num,J1,I2,IB⟩
    case measure=>simp [intOf]; omega
   ·rw [ht] at hix
    obtain ⟨l0,l1⟩:=left_cells (rangeAt_below HR.out IB.out hp) hlt
    have J1:Hid (TabAt (wr.setCells w.heap.size (k*2) [.bool (x.left k).isSome,.int .i64 ((x.left k).getD 0)]) w.heap.size (x.overTo f (k+1))):=by show TabAt _ _ _; rw [overTo_hit x f ht]; exact I1.out.set hlt _
    have J2:Hid (TabAt (wr.setCells w.heap.size (k*2) [.bool (x.left k).isSome,.int .i64 ((x.left k).getD 0)]) (w.heap.size+1) (fun _=>none)):=I2.out.frame (setCells_other _ _ _ _ (by omega))
    have JB:Hid (Below w.heap.size w (wr.setCells w.heap.size (k*2) [.bool (x.left k).isSome,.int .i64 ((x.left k).getD 0)])):=below_setCells (Nat.le_refl _) _ _ _ IB.out
    have HT:Hid (wr.there w.heap.size (k*2) 2):=I1.out.there (by omega)
    go_wp2_with (first | (refine wpList_store_mid rfl 119 _ _ rfl w.heap.size (k*2) #[.bool (x.left k).isSome,.int .i64 ((x.left k).getD 0)] rfl rfl HT.out size_slot (slot_one _ _) ?_))
    go_roundw
    case rel=>exact ⟨k+1,by omega,by go_num,J1,J2,JB⟩
    case measure=>simp [intOf]; omega
  ·have e:k=16:=by omega
   subst e
   have HT:Hid (wr.there (w.heap.size+1) 0 (tabV (x.over f)).length):=I2.out.there (by rw [len_tabV]; omega)
   have hr16:wr.rangeAt w.heap.size 0 (tabV (x.over f)):=by rw [← overTo_all]; exact I1.out.2
   go_wp2_with (first | (refine wpList_load_mid rfl 122 _ rfl w.heap.size 0 rfl (tabV (x.over f)) _ hr16 Try.underlying122 rfl (by rw [len_tabV]; exact size_tab) ?_) | (refine wpList_store_mid rfl 122 _ _ rfl (w.heap.size+1) 0 (tabV (x.over f)).toArray rfl rfl HT.out (by rw [List.size_toArray,len_tabV]; exact size_tab) (tab_one _) ?_))
   have hl:=run_loadVar_mid (P:=Try.prog) (wr.setCells (w.heap.size+1) 0 (tabV (x.over f))) (w.heap.size+1) 0 122 (tabV (x.over f)) _ (World.rangeAt_setCells_same wr _ 0 _ HT.out) Try.underlying122 rfl (by rw [len_tabV]; exact size_tab)
   exact bodyPost_ret (v:=.agg (tabV (x.over f)).toArray) (by simp [results,Try.results73,hl,Act.put,asAddr]) rfl ⟨rfl,below_setCells (by omega) _ _ _ IB.out⟩
end Go.Proofs.Ytpbcplfpjcacfaa
