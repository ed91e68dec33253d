import Derived.Test.YtpbcplfpjcacfaaF12
namespace Go.Proofs.Ytpbcplfpjcacfaa
open Go.RowKit
set_option maxRecDepth 100000
set_option maxHeartbeats 8000000
abbrev tabObj (f:Nat→Option Int):Obj:=.cells (tabV f).toArray 122
theorem zeroTab:(.cells #[Value.bool false,Value.int IntKind.i64 0,Value.bool false,Value.int IntKind.i64 0,Value.bool false,Value.int IntKind.i64 0,Value.bool false,Value.int IntKind.i64 0,Value.bool false,Value.int IntKind.i64 0,Value.bool false,Value.int IntKind.i64 0,Value.bool false,Value.int IntKind.i64 0,Value.bool false,Value.int IntKind.i64 0,Value.bool false,Value.int IntKind.i64 0,Value.bool false,Value.int IntKind.i64 0,Value.bool false,Value.int IntKind.i64 0,Value.bool false,Value.int IntKind.i64 0,Value.bool false,Value.int IntKind.i64 0,Value.bool false,Value.int IntKind.i64 0,Value.bool false,Value.int IntKind.i64 0,Value.bool false,Value.int IntKind.i64 0] 122:Obj)=tabObj (fun _=>none):=rfl
theorem TabAt.all {w:World} {b:Nat} {f:Nat→Option Int} (h:TabAt w b f) (g:Nat→Option Int):TabAt (w.setCells b 0 (tabV g)) b g:=by
 obtain ⟨C,hC,hz⟩:=h.1
 obtain ⟨C',hC',hz'⟩:=setCells_root (tabV g) 0 w C hC
 exact ⟨⟨C',hC',by omega⟩,World.rangeAt_setCells_same w b 0 _ (h.there (by rw [len_tabV]; omega))⟩
theorem tab_ret {fn:Func} {pt:Tmp} {R:Ending→World→Prop} {a:Act} {w:World} {b:Nat} {f:Nat→Option Int} (hres:fn.results=#[.cell pt 122]) (hp:a.tmps.getD pt undef=.pointer (some ⟨b,0,none⟩)) (hd:a.defers=[])
  (h:w.rangeAt b 0 (tabV f)) (hR:R (.returned (.agg (tabV f).toArray)) w):bodyPost Try.prog fn R .ret a w:=by
 have hl:=run_loadVar_mid (P:=Try.prog) w b 0 122 (tabV f) _ h Try.underlying122 rfl (by rw [len_tabV]; exact size_tab)
 refine bodyPost_ret (v:=.agg (tabV f).toArray) ?_ hd hR
 have hp':a.tmps[pt]?.getD undef=.pointer (some ⟨b,0,none⟩):=by simpa using hp
 simp [results,hres,hp',hl,asAddr]
theorem sees_is {w:World} {p q n:Nat} {a:Wh} {l:Lab} {s:PS} {own:Own} {G:PG} (m:PMem w p s own G) (hq:q < 32) (hn:n < 4) (ha:a=whoOf q n) (hl:labB l.1 l.2=true) :
  Calls Try.prog 99 #[.pointer (some ⟨p,0,none⟩),.agg #[.int .i64 a.1,.int .i64 a.2.1,.int .i64 a.2.2],.agg #[.int .i64 l.1,.int .i64 l.2]] w (TabPost w (s.seesT q n l)):=by
 have M:Hid (PMem w p s own G):=m
 have hp:=m.lt
 have zn:(n:Int) < 4:=by omega
 clear m
 obtain ⟨a0,a1,a2⟩:=a
 obtain ⟨l0,l1⟩:=l
 simp only [whoOf,Prod.mk.injEq] at ha
 obtain ⟨h0,h1,h2⟩:=ha
 subst h2
 have Ha:Hid ((a0,a1)=labOf q):=by show _=_; rw [h0,h1]
 have hlab:labB a0 a1=true:=by rw [h0,h1]; exact labOf_ok hq
 have hpl:plOf (a0,a1)=q:=by rw [Ha.out]; exact plOf_labOf hq
 clear h0 h1
 simp only at hl
 have HP:Hid (s.seesT q n (l0,l1)=if (l0,l1)=(a0,a1) then ((s.t q).ses n).wr.over (s.t (plOf (l0,l1))).items else (s.t (plOf (l0,l1))).items):=by show _=_; unfold PS.seesT; rw [Ha.out]
 go_enter Try.func99,Try.ntmps99
 go_upto_region 1 with fail
 rw [zeroTab]
 have hz1:(w.alloc (.cells #[.int .i64 a0,.int .i64 a1,.int .i64 (n:Int)] 28)).heap.size=w.heap.size+1:=by simp
 have hz2:((w.alloc (.cells #[.int .i64 a0,.int .i64 a1,.int .i64 (n:Int)] 28)).alloc (.cells #[.int .i64 l0,.int .i64 l1] 25)).heap.size=w.heap.size+1+1:=by simp
 have B1:Hid (Below w.heap.size w (((w.alloc (.cells #[.int .i64 a0,.int .i64 a1,.int .i64 (n:Int)] 28)).alloc (.cells #[.int .i64 l0,.int .i64 l1] 25)).alloc (tabObj (fun _=>none)))):=below3r
 have L0:Hid ((((w.alloc (.cells #[.int .i64 a0,.int .i64 a1,.int .i64 (n:Int)] 28)).alloc (.cells #[.int .i64 l0,.int .i64 l1] 25)).alloc (tabObj (fun _=>none))).heap[w.heap.size]?=some (.cells #[.int .i64 a0,.int .i64 a1,.int .i64 (n:Int)] 28 (0,0))):=by
  show _=_
  rw [heap_alloc_old (by simp; omega),heap_alloc_old (by simp)]; exact heap_alloc_new w _
 have L1:Hid ((((w.alloc (.cells #[.int .i64 a0,.int .i64 a1,.int .i64 (n:Int)] 28)).alloc (.cells #[.int .i64 l0,.int .i64 l1] 25)).alloc (tabObj (fun _=>none))).heap[w.heap.size+1]?=some (.cells #[.int .i64 l0,.int .i64 l1] 25 (0,0))):=by
  show _=_
  rw [heap_alloc_old (by simp),← hz1]; exact heap_alloc_new _ _
 have L2:Hid (TabAt (((w.alloc (.cells #[.int .i64 a0,.int .i64 a1,.int .i64 (n:Int)] 28)).alloc (.cells #[.int .i64 l0,.int .i64 l1] 25)).alloc (tabObj (fun _=>none))) (w.heap.size+1+1) (fun _=>none)):=by
  show TabAt _ _ _
  rw [← hz2]; exact TabAt.new
 clear hz1 hz2
 generalize ((w.alloc _).alloc _).alloc _=W1 at *
 have M1:Hid (PMem W1 p s own G):=M.out.below B1.out
 have hs1:w.heap.size+1+1 < W1.heap.size:=by obtain ⟨C,hC,_⟩:=L2.out.1; exact (Array.getElem?_eq_some_iff.1 hC).1
 have r0:W1.cell? ⟨w.heap.size+1,0,none⟩=some (.int .i64 l0):=by rw [cell_of_row _ _ _ _ _ _ L1.out]; rfl
 have r1:W1.cell? ⟨w.heap.size+1,1,none⟩=some (.int .i64 l1):=by rw [cell_of_row _ _ _ _ _ _ L1.out]; rfl
 go_wp2_with fail
 refine (tier_is (a:=(l0,l1)) hl rfl).mono ?_
 rintro e w2 ⟨rfl,hb2⟩
 have B2:Hid (Below w.heap.size w w2):=B1.out.trans (hb2.mono B1.out.size)
 have M2:Hid (PMem w2 p s own G):=M.out.below B2.out
 have J0:Hid (w2.heap[w.heap.size]?=_):=(hb2.block _ (by omega)).trans L0.out
 have J1:Hid (w2.heap[w.heap.size+1]?=_):=(hb2.block _ (by omega)).trans L1.out
 have J2:Hid (TabAt w2 (w.heap.size+1+1) (fun _=>none)):=L2.out.frame (hb2.block _ (by omega))
 have hs2:w.heap.size+1+1 < w2.heap.size:=Nat.lt_of_lt_of_le hs1 hb2.size
 have hit:=M2.out.items (plOf (l0,l1)) (plOf_lt hl)
 clear r0 r1 L0 L1 L2 hb2 M1 B1
 generalize hT:(s.t (plOf (l0,l1))).items=T at *
 have T0:Hid (TabAt (w2.alloc (tabObj (fun _=>none))) w2.heap.size (fun _=>none)):=TabAt.new
 have HT3:Hid ((w2.alloc (tabObj (fun _=>none))).there w2.heap.size 0 (tabV T).toArray.size):=T0.out.there (by rw [List.size_toArray,len_tabV]; omega)
 have T3:Hid (TabAt ((w2.alloc (tabObj (fun _=>none))).setCells w2.heap.size 0 (tabV T)) w2.heap.size T):=T0.out.all T
 have B3':Hid (Below w2.heap.size w2 ((w2.alloc (tabObj (fun _=>none))).setCells w2.heap.size 0 (tabV T))):=below_setCells (Nat.le_refl _) _ _ _ ((Below.refl _ _).alloc (Nat.le_refl _) _)
 go_upto_region 2 with (first | (refine wpList_load_mid rfl 122 _ rfl p (tO (plOf (l0,l1))) rfl (tabV T) _ hit Try.underlying122 rfl (by rw [len_tabV]; exact size_tab) ?_) | (refine wpList_store_mid rfl 122 _ _ rfl w2.heap.size 0 (tabV T).toArray rfl rfl HT3.out (by rw [List.size_toArray,len_tabV]; exact size_tab) (tab_one _) ?_))
 rw [zeroTab]
 clear hit T0 HT3
 simp only [Act.put]
 have K0:Hid (((w2.alloc (tabObj (fun _=>none))).setCells w2.heap.size 0 (tabV T)).heap[w.heap.size]?=_):=(B3'.out.block _ (by omega)).trans J0.out
 have K1:Hid (((w2.alloc (tabObj (fun _=>none))).setCells w2.heap.size 0 (tabV T)).heap[w.heap.size+1]?=_):=(B3'.out.block _ (by omega)).trans J1.out
 have K2:Hid (TabAt ((w2.alloc (tabObj (fun _=>none))).setCells w2.heap.size 0 (tabV T)) (w.heap.size+1+1) (fun _=>none)):=J2.out.frame (B3'.out.block _ (by omega))
 have B3:Hid (Below w.heap.size w ((w2.alloc (tabObj (fun _=>none))).setCells w2.heap.size 0 (tabV T))):=B2.out.trans (B3'.out.mono B2.out.size)
 have hs3:w2.heap.size < ((w2.alloc (tabObj (fun _=>none))).setCells w2.heap.size 0 (tabV T)).heap.size:=by rw [setCells_size]; simp
 clear B3' J0 J1 J2 M2
 generalize (w2.alloc (tabObj (fun _=>none))).setCells w2.heap.size 0 (tabV T)=W3 at *
 have HT2:Hid (W3.there (w.heap.size+1+1) 0 (tabV T).toArray.size):=K2.out.there (by rw [List.size_toArray,len_tabV]; omega)
 have c0:W3.cell? ⟨w.heap.size,0,none⟩=some (.int .i64 a0):=by rw [cell_of_row _ _ _ _ _ _ K0.out]; rfl
 have c1:W3.cell? ⟨w.heap.size,1,none⟩=some (.int .i64 a1):=by rw [cell_of_row _ _ _ _ _ _ K0.out]; rfl
 have c2:W3.cell? ⟨w.heap.size,2,none⟩=some (.int .i64 (n:Int)):=by rw [cell_of_row _ _ _ _ _ _ K0.out]; rfl
 have d0:W3.cell? ⟨w.heap.size+1,0,none⟩=some (.int .i64 l0):=by rw [cell_of_row _ _ _ _ _ _ K1.out]; rfl
 have d1:W3.cell? ⟨w.heap.size+1,1,none⟩=some (.int .i64 l1):=by rw [cell_of_row _ _ _ _ _ _ K1.out]; rfl
 have hzw:w.heap.size+1+1 < W3.heap.size:=by omega
 by_cases h0:l0=a0
 ·subst h0
  by_cases h1:l1=a1
  ·subst h1
   have HP':Hid (s.seesT q n (l0,l1)=((s.t q).ses n).wr.over T):=by have:=HP.out; rw [if_pos rfl] at this; exact this
   go_wp2_with fail
   refine (tier_is (a:=(l0,l1)) hlab hpl).mono ?_
   rintro e w4 ⟨rfl,hb4⟩
   have B4:Hid (Below w.heap.size w w4):=B3.out.trans (hb4.mono B3.out.size)
   have T4:Hid (TabAt w4 w2.heap.size T):=T3.out.frame (hb4.block _ hs3)
   have Q2:Hid (TabAt w4 (w.heap.size+1+1) (fun _=>none)):=K2.out.frame (hb4.block _ hzw)
   have hz4:w2.heap.size < w4.heap.size:=Nat.lt_of_lt_of_le hs3 hb4.size
   have cc2:=cell_later hb4 c2
   clear c0 c1 c2 d0 d1 hb4
   go_upto_region 5 with fail
   have HS:Hid (∀ W,Below w4.heap.size w4 W→W.cell? ⟨w.heap.size,2,none⟩=some (.int .i64 (n:Int))∧W.rangeAt w2.heap.size 0 (tabV T)):=fun W hB=>⟨cell_later hB cc2,rangeAt_below T4.out.2 hB hz4⟩
   have hS:=HS.out w4.drew (Below.refl _ _).drew
   refine wp_region_Z (z:=9) (S:=fun W=>W.cell? ⟨w.heap.size,2,none⟩=some (.int .i64 (n:Int))∧W.rangeAt w2.heap.size 0 (tabV T)) (by kernel_rfl) ?_
   refine zC 9 (i:=0) (v:=?v1) (by decide +kernel) rfl (fun _ _ _ h=>h) hS (.inl ⟨by rfl,?y1⟩) ?_
   case y1=>(rintro wz ⟨zs0,zs1⟩; go_simp<;>with_reducible rfl)
   simp only [Act.put,z1,z2,z4]
   refine zC 9 (i:=1) (v:=?v2) (by decide +kernel) rfl (fun _ _ _ h=>h) hS (.inl ⟨by rfl,?y2⟩) ?_
   case y2=>(rintro wz ⟨zs0,zs1⟩; go_simp<;>with_reducible rfl)
   simp only [Act.put,z1,z2,z3,z4,z5,z6]
   refine zC 9 (i:=2) (v:=?v3) (by decide +kernel) rfl (fun _ _ _ h=>h) hS (.inl ⟨by rfl,?y3⟩) ?_
   case y3=>(rintro wz ⟨zs0,zs1⟩; go_simp<;>with_reducible rfl)
   simp only [Act.put,z1,z2,z3,z4,z5,z6]
   refine zC 9 (i:=3) (v:=?v4) (by decide +kernel) rfl (fun _ _ _ h=>h) hS (.inl ⟨by rfl,?y4⟩) ?_
   case y4=>(rintro wz ⟨zs0,zs1⟩; go_simp<;>with_reducible rfl)
   simp only [Act.put,z1,z2,z3,z4,z5,z6]
   refine zC 9 (i:=4) (v:=?v5) (by decide +kernel) rfl (fun _ _ _ h=>h) hS (.inl ⟨by rfl,?y5⟩) ?_
   case y5=>(rintro wz ⟨zs0,zs1⟩; go_simp<;>with_reducible rfl)
   simp only [Act.put,z1,z2,z3,z4,z5,z6]
   refine zC 9 (i:=5) (v:=?v6) (by decide +kernel) rfl (fun _ _ _ h=>h) hS (.inl ⟨by rfl,?y6⟩) ?_
   case y6=>(rintro wz ⟨zs0,zs1⟩; go_simp<;>with_reducible rfl)
   simp only [Act.put,z1,z2,z3,z4,z5,z6]
   refine zC 9 (i:=6) (v:=?v7) (by decide +kernel) rfl (fun _ _ _ h=>h) hS (.inl ⟨by rfl,?y7⟩) ?_
   case y7=>(rintro wz ⟨zs0,zs1⟩; go_simp<;>with_reducible rfl)
   simp only [Act.put,z1,z2,z3,z4,z5,z6]
   refine wpAnyZ_takeC 9 (i:=7) (v:=.agg (tabV T).toArray) (by decide +kernel) rfl (by decide +kernel) (by decide +kernel) (by decide +kernel) (by decide +kernel) (fun _ _ _ h=>h) hS (yieldsIf_load_mid (by rfl) 122 _ rfl w2.heap.size 0 (by rfl) (tabV T) _ (fun W h=>h.2) Try.underlying122 rfl (by rw [len_tabV]; exact size_tab)) ?_
   simp only [Act.put,List.setIfInBounds_toArray]
   refine wpAnyZ_one (i:=8) (by decide +kernel) rfl (fun K hK=>?_)
   go_simp
   refine (over_is (ses_wr ((M.out.below B4.out.drew).sesAt hq hn)) (M.out.below B4.out.drew).lt).mono ?_
   rintro e w5 ⟨rfl,hb5⟩
   have hb5':Below w4.heap.size w4 w5:=(Below.refl _ _).drew.trans hb5
   have HT5:Hid (w5.there (w.heap.size+1+1) 0 (tabV (((s.t q).ses n).wr.over T)).toArray.size):=(Q2.out.frame (hb5'.block _ (by omega))).there (by rw [List.size_toArray,len_tabV]; omega)
   have Q5:Hid (TabAt w5 (w.heap.size+1+1) (fun _=>none)):=Q2.out.frame (hb5'.block _ (by omega))
   have B5:Hid (Below w.heap.size w w5):=B4.out.trans (hb5'.mono B4.out.size)
   refine hK _ _ (fun _=>HS.out _ hb5') ?_
   clear hK
   refine wpAnyZ_one (i:=9) (by decide +kernel) rfl (fun K hK=>?_)
   rw [if_pos (by rfl)]
   refine wp_store_mid 122 _ _ rfl (w.heap.size+1+1) 0 (tabV (((s.t q).ses n).wr.over T)).toArray rfl rfl HT5.out (by rw [List.size_toArray,len_tabV]; exact size_tab) (tab_one _) (hK _ _ (fun h=>absurd rfl h) ?_)
   clear hK
   refine wpAnyZ_done (by decide +kernel) ?_ _
   go_wp2
   refine tab_ret Try.results99 rfl rfl (Q5.out.all _).2 ⟨?_,below_setCells (by omega) _ _ _ B5.out⟩
   rw [HP'.out]
  ·have g:(l1 == a1)=false:=by simpa using h1
   have HP':Hid (s.seesT q n (l0,l1)=T):=by have:=HP.out; rw [if_neg (fun e=>h1 (Prod.mk.inj e).2)] at this; exact this
   clear h1
   go_wp2_with (first | (refine wpList_load_mid rfl 122 _ rfl w2.heap.size 0 rfl (tabV T) _ T3.out.2 Try.underlying122 rfl (by rw [len_tabV]; exact size_tab) ?_) | (refine wpList_store_mid rfl 122 _ _ rfl (w.heap.size+1+1) 0 (tabV T).toArray rfl rfl HT2.out (by rw [List.size_toArray,len_tabV]; exact size_tab) (tab_one _) ?_))
   refine tab_ret Try.results99 rfl rfl (K2.out.all T).2 ⟨?_,below_setCells (by omega) _ _ _ B3.out⟩
   rw [HP'.out]
 ·have g:(l0 == a0)=false:=by simpa using h0
  have HP':Hid (s.seesT q n (l0,l1)=T):=by have:=HP.out; rw [if_neg (fun e=>h0 (Prod.mk.inj e).1)] at this; exact this
  clear h0
  go_wp2_with (first | (refine wpList_load_mid rfl 122 _ rfl w2.heap.size 0 rfl (tabV T) _ T3.out.2 Try.underlying122 rfl (by rw [len_tabV]; exact size_tab) ?_) | (refine wpList_store_mid rfl 122 _ _ rfl (w.heap.size+1+1) 0 (tabV T).toArray rfl rfl HT2.out (by rw [List.size_toArray,len_tabV]; exact size_tab) (tab_one _) ?_))
  refine tab_ret Try.results99 rfl rfl (K2.out.all T).2 ⟨?_,below_setCells (by omega) _ _ _ B3.out⟩
  rw [HP'.out]
theorem items_chain {own:Own} {w W:World} {p b N:Nat} {s:PS} {G:PG} {v:Value} {l:List (Int × Int)} (m:PMem w p s own G) (hB:Below w.heap.size w W) (hb:w.heap.size≤b) (hblk:ansBlk W b 0 0 (.slice none 0 0)) (hrow:W.ownsRow N 94 2 v l.length (itemsV l)) (hN:b < N) :
  ansBlk (ansW W b 0 0 v) b 0 0 v∧AQ own w p s ⟨0,0,l⟩ (.returned (ansV 0 0 v)) (ansW W b 0 0 v):=by
 have hv:∀ k,v.ownBlock=some k→N≤k:=fun k hk=>(hrow.lt k hk).1
 have hWW:ansW W b 0 0 v=W.setCells b 0 [.int .i64 0,.int .i64 0,v]:=rfl
 refine ⟨ans_stored _ _ _ hblk,v,own,G,rfl,?_,?_,?_,?_⟩
 ·rw [hWW]; exact ownsRow_lower (ownsRow_frame hrow (fun k hk=>setCells_other _ _ _ _ (by have:=hv k hk; omega))) (Nat.zero_le _)
 ·rw [hWW]; exact (m.below hB).free (m.off hb) _
 ·rw [hWW]; exact (ChgQ.of_below hB).free hb _
 ·intro k hk
  have:=hv k hk
  exact ⟨m.off (by omega),.inr (by omega)⟩
theorem grant_is {w:World} {p q n:Nat} {x:Stp} {s:PS} {own:Own} {G:PG} (m:PMem w p s own G) (hq:q < 32) (hn:n < 4) (hx:x.who=whoOf q n) (hk:0≤x.key∧x.key≤15) (hl:labB x.at_.1 x.at_.2=true) :
  Calls Try.prog 77 #[.pointer (some ⟨p,0,none⟩),stepV x] w (AQ own w p (s.grantT q n x).1 (s.grantT q n x).2):=by
 have M:Hid (PMem w p s own G):=m
 have hp:=m.lt
 have zn:(n:Int) < 4:=by omega
 clear m
 obtain ⟨⟨x0,x1,x2⟩,x3,⟨x4,x5⟩,x6,x7,x8⟩:=x
 simp only at hx hk hl
 have HX:Hid ((x0,x1,x2)=whoOf q n):=hx
 simp only [whoOf,Prod.mk.injEq] at hx
 obtain ⟨h0,h1,h2⟩:=hx
 subst h2
 obtain ⟨k,rfl⟩:∃ k:Nat,x6=(k:Int):=⟨x6.toNat,by omega⟩
 have hk16:k < 16:=by omega
 have Ha:Hid ((x0,x1)=labOf q):=by show _=_; rw [h0,h1]
 have hlab:labB x0 x1=true:=by rw [h0,h1]; exact labOf_ok hq
 have hpl:plOf (x0,x1)=q:=by rw [Ha.out]; exact plOf_labOf hq
 clear h0 h1 hk
 have hS0:∀ W,Below w.heap.size w W→PMem W p s own G:=fun W h=>M.out.below h
 have HS0:Hid (∀ W,Below w.heap.size w W→PMem W p s own G):=hS0
 clear hS0
 unfold stepV
 by_cases h4:x3=4
 ·subst h4
  have HP:Hid (s.grantT q n ⟨(x0,x1,(n:Int)),4,(x4,x5),(k:Int),x7,x8⟩=s.putT q n ⟨(x0,x1,(n:Int)),4,(x4,x5),(k:Int),x7,x8⟩):=by show _=_; unfold PS.grantT; simp
  go_enter Try.func77,Try.ntmps77
  go_upto_region 1 with fail
  obtain ⟨B1,L0,L1⟩:=entry2 (w:=w) (x:=⟨(x0,x1,(n:Int)),4,(x4,x5),(k:Int),x7,x8⟩)
  unfold stpObj ansObj at *
  simp only at *
  generalize (w.alloc _).alloc _=W1 at *
  obtain ⟨r0,r1,r2,r3,r4,r5,r6,r7,r8⟩:=stp_cells (loc_stp L0.out)
  simp only [Nat.zero_add] at r0 r1 r2 r3 r4 r5 r6 r7 r8
  go_wp2_with fail
  refine (put_is (x:=⟨(x0,x1,(n:Int)),4,(x4,x5),(k:Int),x7,x8⟩) (HS0.out _ B1.out) hq hn HX.out (by simp; omega)).mono ?_
  intro e w2 haq
  obtain ⟨ao,cap,rfl,a0,a1,a2⟩:=aq_chain (ChgQ.of_below B1.out) (b:=w.heap.size+1) (by omega) (M.out.off (by omega)) L1.out haq
  obtain ⟨e0,e1,e2,f0,f1,f2⟩:=ans_cells a0
  have A1:Hid (ansBlk _ _ _ _ _):=a1
  have A2:Hid (AQ _ _ _ _ _ _ _):=a2
  clear a0 a1 a2 haq r0 r1 r2 r3 r4 r5 r6 r7 r8
  unfold ansV
  go_wp2
  refine ret_ans Try.results77 rfl A1.out rfl ?_
  rw [HP.out]; exact A2.out
 ·by_cases h5:x3=5
  ·subst h5
   have HP:Hid (s.grantT q n ⟨(x0,x1,(n:Int)),5,(x4,x5),(k:Int),x7,x8⟩=(s.setW q n (((s.t q).ses n).wr.delT k),⟨0,0,[]⟩)):=by show _=_; unfold PS.grantT; simp
   clear h4
   go_enter Try.func77,Try.ntmps77
   go_upto_region 1 with fail
   obtain ⟨B1,L0,L1⟩:=entry2 (w:=w) (x:=⟨(x0,x1,(n:Int)),5,(x4,x5),(k:Int),x7,x8⟩)
   unfold stpObj ansObj at *
   simp only at *
   generalize (w.alloc _).alloc _=W1 at *
   have hs1:w.heap.size+1 < W1.heap.size:=(Array.getElem?_eq_some_iff.1 L1.out).1
   obtain ⟨r0,r1,r2,r3,r4,r5,r6,r7,r8⟩:=stp_cells (loc_stp L0.out)
   simp only [Nat.zero_add] at r0 r1 r2 r3 r4 r5 r6 r7 r8
   go_wp2_with fail
   refine (tier_is (a:=(x0,x1)) hlab hpl).mono ?_
   rintro e w2 ⟨rfl,hb2⟩
   have B2:Hid (Below w.heap.size w w2):=B1.out.trans (hb2.mono B1.out.size)
   have L12:Hid (ansBlk w2 (w.heap.size+1) 0 0 (.slice none 0 0)):=(hb2.block _ (by omega)).trans L1.out
   have s2:=cell_later hb2 r2
   have s6:=cell_later hb2 r6
   have hS:(fun W:World=>W.cell? ⟨w.heap.size,2,none⟩=some (.int .i64 (n:Int))∧W.cell? ⟨w.heap.size,6,none⟩=some (.int .i64 (k:Int))) w2.drew:=⟨s2,s6⟩
   clear r0 r1 r2 r3 r4 r5 r6 r7 r8 hb2
   go_upto_region 6 with fail
   refine wp_region_Z (z:=10) (S:=fun W=>W.cell? ⟨w.heap.size,2,none⟩=some (.int .i64 (n:Int))∧W.cell? ⟨w.heap.size,6,none⟩=some (.int .i64 (k:Int))) (by kernel_rfl) ?_
   refine zC 9 (i:=0) (v:=?v1) (by decide +kernel) rfl (fun _ _ _ h=>h) hS (.inl ⟨by rfl,?y1⟩) ?_
   case y1=>(rintro wz ⟨zs0,zs1⟩; go_simp<;>with_reducible rfl)
   simp only [Act.put,z1,z2,z4]
   refine zC 9 (i:=1) (v:=?v2) (by decide +kernel) rfl (fun _ _ _ h=>h) hS (.inl ⟨by rfl,?y2⟩) ?_
   case y2=>(rintro wz ⟨zs0,zs1⟩; go_simp<;>with_reducible rfl)
   simp only [Act.put,z1,z2,z3,z4,z5,z6]
   refine zC 9 (i:=2) (v:=?v3) (by decide +kernel) rfl (fun _ _ _ h=>h) hS (.inl ⟨by rfl,?y3⟩) ?_
   case y3=>(rintro wz ⟨zs0,zs1⟩; go_simp<;>with_reducible rfl)
   simp only [Act.put,z1,z2,z3,z4,z5,z6]
   refine zC 9 (i:=3) (v:=?v4) (by decide +kernel) rfl (fun _ _ _ h=>h) hS (.inl ⟨by rfl,?y4⟩) ?_
   case y4=>(rintro wz ⟨zs0,zs1⟩; go_simp<;>with_reducible rfl)
   simp only [Act.put,z1,z2,z3,z4,z5,z6]
   refine zC 9 (i:=4) (v:=?v5) (by decide +kernel) rfl (fun _ _ _ h=>h) hS (.inl ⟨by rfl,?y5⟩) ?_
   case y5=>(rintro wz ⟨zs0,zs1⟩; go_simp<;>with_reducible rfl)
   simp only [Act.put,z1,z2,z3,z4,z5,z6]
   refine zC 9 (i:=5) (v:=?v6) (by decide +kernel) rfl (fun _ _ _ h=>h) hS (.inl ⟨by rfl,?y6⟩) ?_
   case y6=>(rintro wz ⟨zs0,zs1⟩; go_simp<;>with_reducible rfl)
   simp only [Act.put,z1,z2,z3,z4,z5,z6]
   refine zC 9 (i:=6) (v:=?v7) (by decide +kernel) rfl (fun _ _ _ h=>h) hS (.inl ⟨by rfl,?y7⟩) ?_
   case y7=>(rintro wz ⟨zs0,zs1⟩; go_simp<;>with_reducible rfl)
   simp only [Act.put,z1,z2,z3,z4,z5,z6]
   refine zC 9 (i:=7) (v:=?v8) (by decide +kernel) rfl (fun _ _ _ h=>h) hS (.inl ⟨by rfl,?y8⟩) ?_
   case y8=>(rintro wz ⟨zs0,zs1⟩; go_simp<;>with_reducible rfl)
   simp only [Act.put,z1,z2,z3,z4,z5,z6]
   refine zC 9 (i:=8) (v:=?v9) (by decide +kernel) rfl (fun _ _ _ h=>h) hS (.inl ⟨by rfl,?y9⟩) ?_
   case y9=>(rintro wz ⟨zs0,zs1⟩; go_simp<;>with_reducible rfl)
   simp only [Act.put,z1,z2,z3,z4,z5,z6]
   refine zC 9 (i:=9) (v:=?v10) (by decide +kernel) rfl (fun _ _ _ h=>h) hS (.inl ⟨by rfl,?y10⟩) ?_
   case y10=>(rintro wz ⟨zs0,zs1⟩; go_simp<;>with_reducible rfl)
   simp only [Act.put,z1,z2,z3,z4,z5,z6]
   refine wpAnyZ_one (i:=10) (by decide +kernel) rfl (fun K hK=>?_)
   go_simp
   refine (wrDel_is (HS0.out _ B2.out.drew) hq hn hk16).mono ?_
   rintro e w4 ⟨rfl,hmv⟩
   refine hK _ _ (fun h=>absurd rfl h) ?_
   clear hK
   refine wpAnyZ_done (by decide +kernel) ?_ _
   obtain ⟨b0,b1,b2⟩:=moved_chain (ChgQ.of_below B2.out.drew) (b:=w.heap.size+1) (by omega) (M.out.off (by omega)) L12.out hmv 0 0
   obtain ⟨e0,e1,e2,f0,f1,f2⟩:=ans_cells b0
   have A1:Hid (ansBlk _ _ _ _ _):=b1
   have A2:Hid (AQ _ _ _ _ _ _ _):=b2
   clear b0 b1 b2 hmv
   go_wp2
   refine ret_ans Try.results77 rfl A1.out rfl ?_
   rw [HP.out]; exact A2.out
  ·have g4:(x3 == 4)=false:=by simpa using h4
   have g5:(x3 == 5)=false:=by simpa using h5
   have HP:Hid (s.grantT q n ⟨(x0,x1,(n:Int)),x3,(x4,x5),(k:Int),x7,x8⟩=(s,⟨0,0,listTo (s.seesT q n (x4,x5)) (lkOf ⟨(x0,x1,(n:Int)),x3,(x4,x5),(k:Int),x7,x8⟩).lo (lkOf ⟨(x0,x1,(n:Int)),x3,(x4,x5),(k:Int),x7,x8⟩).hi 16⟩)):=by show _=_; unfold PS.grantT; simp [h4,h5]
   clear h4 h5
   go_enter Try.func77,Try.ntmps77
   go_upto_region 1 with fail
   obtain ⟨B1,L0,L1⟩:=entry2 (w:=w) (x:=⟨(x0,x1,(n:Int)),x3,(x4,x5),(k:Int),x7,x8⟩)
   unfold stpObj ansObj at *
   simp only at *
   generalize (w.alloc _).alloc _=W1 at *
   have hs1:w.heap.size+1 < W1.heap.size:=(Array.getElem?_eq_some_iff.1 L1.out).1
   obtain ⟨r0,r1,r2,r3,r4,r5,r6,r7,r8⟩:=stp_cells (loc_stp L0.out)
   simp only [Nat.zero_add] at r0 r1 r2 r3 r4 r5 r6 r7 r8
   go_wp2_with fail
   refine (sees_is (a:=(x0,x1,(n:Int))) (l:=(x4,x5)) (HS0.out _ B1.out) hq hn HX.out hl).mono ?_
   rintro e w2 ⟨rfl,hb2⟩
   have B2:Hid (Below w.heap.size w w2):=B1.out.trans (hb2.mono B1.out.size)
   have L02:Hid (w2.heap[w.heap.size]?=_):=(hb2.block _ (by omega)).trans L0.out
   have L12:Hid (ansBlk w2 (w.heap.size+1) 0 0 (.slice none 0 0)):=(hb2.block _ (by omega)).trans L1.out
   have hs2:w.heap.size+1 < w2.heap.size:=Nat.lt_of_lt_of_le hs1 hb2.size
   clear r0 r1 r2 r3 r4 r5 r6 r7 r8 hb2 L0 L1 B1
   generalize s.seesT q n (x4,x5)=T at *
   have T0:Hid (TabAt (w2.alloc (tabObj (fun _=>none))) w2.heap.size (fun _=>none)):=TabAt.new
   have HT3:Hid ((w2.alloc (tabObj (fun _=>none))).there w2.heap.size 0 (tabV T).toArray.size):=T0.out.there (by rw [List.size_toArray,len_tabV]; omega)
   have T3:Hid (TabAt ((w2.alloc (tabObj (fun _=>none))).setCells w2.heap.size 0 (tabV T)) w2.heap.size T):=T0.out.all T
   have B3':Hid (Below w2.heap.size w2 ((w2.alloc (tabObj (fun _=>none))).setCells w2.heap.size 0 (tabV T))):=below_setCells (Nat.le_refl _) _ _ _ ((Below.refl _ _).alloc (Nat.le_refl _) _)
   have hs3:w2.heap.size < ((w2.alloc (tabObj (fun _=>none))).setCells w2.heap.size 0 (tabV T)).heap.size:=by rw [setCells_size]; simp
   go_upto_region 9 with (first | (refine wpList_store_mid rfl 122 _ _ rfl w2.heap.size 0 (tabV T).toArray rfl rfl HT3.out (by rw [List.size_toArray,len_tabV]; exact size_tab) (tab_one _) ?_))
   rw [zeroTab]
   simp only [Act.put]
   generalize (w2.alloc (tabObj (fun _=>none))).setCells w2.heap.size 0 (tabV T)=W3 at *
   have L03:Hid (W3.heap[w.heap.size]?=_):=(B3'.out.block _ (by omega)).trans L02.out
   have L13:Hid (ansBlk W3 (w.heap.size+1) 0 0 (.slice none 0 0)):=(B3'.out.block _ (by omega)).trans L12.out
   have B3:Hid (Below w.heap.size w W3):=B2.out.trans (B3'.out.mono B2.out.size)
   obtain ⟨r0,r1,r2,r3,r4,r5,r6,r7,r8⟩:=stp_cells (loc_stp L03.out)
   simp only [Nat.zero_add] at r0 r1 r2 r3 r4 r5 r6 r7 r8
   clear T0 HT3 B3' L02 L12
   have hzw:w.heap.size+1 < W3.heap.size:=by omega
   go_wp2_with fail
   refine (asked_any ⟨(x0,x1,(n:Int)),x3,(x4,x5),(k:Int),x7,x8⟩ _).mono ?_
   rintro e w4 ⟨rfl,hb4⟩
   have B4:Hid (Below w.heap.size w w4):=B3.out.trans (hb4.mono B3.out.size)
   have T4:Hid (TabAt w4 w2.heap.size T):=T3.out.frame (hb4.block _ hs3)
   have L14:Hid (ansBlk w4 (w.heap.size+1) 0 0 (.slice none 0 0)):=(hb4.block _ (by omega)).trans L13.out
   have hz4:w2.heap.size < w4.heap.size:=Nat.lt_of_lt_of_le hs3 hb4.size
   clear r0 r1 r2 r3 r4 r5 r6 r7 r8 hb4 L03 L13
   generalize lkOf ⟨(x0,x1,(n:Int)),x3,(x4,x5),(k:Int),x7,x8⟩=r at *
   unfold lkV
   have B5':Hid (Below w4.heap.size w4 (w4.alloc (lkObj r))):=(Below.refl _ _).alloc (Nat.le_refl _) _
   go_wp2_with fail
   refine (list_any w2.heap.size 0 T r.lo r.hi _ (rangeAt_below T4.out.2 B5'.out hz4)).mono ?_
   rintro e w6 ⟨v,rfl,hrow,hb6⟩
   have hb6':Below w4.heap.size w4 w6:=B5'.out.trans (hb6.mono (by simp))
   have L16:Hid (ansBlk w6 (w.heap.size+1) 0 0 (.slice none 0 0)):=(hb6'.block _ (by omega)).trans L14.out
   have B6:Hid (Below w.heap.size w w6):=B4.out.trans (hb6'.mono B4.out.size)
   obtain ⟨a1,a2⟩:=items_chain M.out B6.out (b:=w.heap.size+1) (by omega) L16.out hrow (by simp; omega)
   obtain ⟨ao,cap,rfl⟩:=ownsRow_form hrow
   obtain ⟨e0,e1,e2,f0,f1,f2⟩:=ans_cells L16.out
   have A1:Hid (ansBlk _ _ _ _ _):=a1
   have A2:Hid (AQ _ _ _ _ _ _ _):=a2
   clear a1 a2 hrow hb6 hb6'
   go_wp2
   refine ret_ans Try.results77 rfl A1.out rfl ?_
   rw [HP.out]; exact A2.out
end Go.Proofs.Ytpbcplfpjcacfaa
