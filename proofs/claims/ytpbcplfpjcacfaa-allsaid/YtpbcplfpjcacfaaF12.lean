import Derived.Test.YtpbcplfpjcacfaaF11
namespace Go.Proofs.Ytpbcplfpjcacfaa
open Go.RowKit
set_option maxRecDepth 100000
set_option maxHeartbeats 8000000
section
variable {P:Program} {ops:Array Oper} {Q:Exit→Act→World→Prop} {md:Region.Mode} {S:World→Prop} {z:Nat}
def Closd (md:Region.Mode) (ops:Array Oper) (listed:Array Bool):Prop:=∀ j oj,ops[j]?=some oj→listed.getD j false=true→∀ e∈oj.after,Region.binds md e=true→listed.getD e.on false=true
def closdB (md:Region.Mode) (ops:Array Oper) (listed:Array Bool):Bool:=(List.range ops.size).all fun j=>match ops[j]? with
 | none=>true
 | some o=>!(listed.getD j false) || o.after.all (fun e=>!Region.binds md e || listed.getD e.on false)
theorem closdB_spec {listed:Array Bool} (h:closdB md ops listed=true):Closd md ops listed:=by
 intro j oj hj hl e he hb
 unfold closdB at h
 rw [List.all_eq_true] at h
 have hlt:j < ops.size:=(Array.getElem?_eq_some_iff.1 hj).1
 have h1:=h j (List.mem_range.2 hlt)
 rw [hj] at h1
 simp only [hl,Bool.not_true,Bool.false_or] at h1
 have h2:=Array.all_eq_true_iff_forall_mem.1 h1 e he
 simpa [hb] using h2
theorem getD_set_keep {listed:Array Bool} {i k:Nat} (h:listed.getD k false=true):(listed.setIfInBounds i true).getD k false=true:=by
 have hk:k < listed.size:=by
  rcases Nat.lt_or_ge k listed.size with h' | h'
  ·exact h'
  ·simp [Array.getElem?_eq_none h'] at h
 by_cases e:i=k
 ·subst e; simp [hk]
 ·rw [getD_set_ne false e]; exact h
theorem Closd.step {listed:Array Bool} {i:Nat} (h:Closd md ops listed) (hi:i∈Region.ready md ops listed):Closd md ops (listed.setIfInBounds i true):=by
 intro j oj hj hl e he hb
 refine getD_set_keep ?_
 by_cases hji:j=i
 ·subst hji
  obtain ⟨_,o,ho,hall⟩:=mem_ready.1 hi
  rw [hj] at ho
  cases ho
  exact hall e he hb
 ·rw [getD_set_ne false (fun e=>hji e.symm)] at hl
  exact h j oj hj hl e he hb
def reachB (md:Region.Mode) (ops:Array Oper) (i:Nat):Nat→Nat→Bool
 | 0,_=>false
 | f+1,z=>match ops[z]? with
  | none=>false
  | some oz=>oz.after.any (fun e=>Region.binds md e && (e.on == i || reachB md ops i f e.on))
theorem reachB_spec {i:Nat} {listed:Array Bool} (hc:Closd md ops listed):∀ (f z:Nat),reachB md ops i f z=true→(∀ oz,ops[z]?=some oz→∀ e∈oz.after,Region.binds md e=true→listed.getD e.on false=true)→listed.getD i false=true
 | 0,_,h,_=>by cases h
 | f+1,z,h,hz=>by
  unfold reachB at h
  cases ho:ops[z]? with
  | none=>rw [ho] at h; cases h
  | some oz =>
   rw [ho] at h
   obtain ⟨e,he,h2⟩:=Array.any_eq_true'.1 h
   simp only [Bool.and_eq_true,Bool.or_eq_true,beq_iff_eq] at h2
   have h3:=hz oz ho e he h2.1
   rcases h2.2 with h4 | h4
   ·rw [h4] at h3; exact h3
   ·exact reachB_spec hc f e.on h4 (fun oz' ho' e' he' hb'=>hc e.on oz' ho' h3 e' he' hb')
theorem wpAnyZ_firstC {i f:Nat} (hlast:reachB md ops i f z=true) {oi:Oper} {v:Value} (hi:ops[i]?=some oi) (hsel:∀ (j:Nat) (o:Oper) cs b,ops[j]?=some o→o.op≠.select cs b)
  (hQ:∀ c a w,Q (.panic c) (a.put oi.dst v) w→Q (.panic c) a w) :
  ∀ (fuel:Nat) (listed:Array Bool) (a:Act) (w:World),Closd md ops listed →
   (∀ j oj,ops[j]?=some oj→j≠i→listed.getD j true=false→(∀ e∈oj.after,Region.binds md e=true→e.on≠i)→oi.apart ops oj=true) →
   i∈Region.ready md ops listed→YieldsIf P ops S oi v a→S w →
   wpAnyZ P md ops Q S z fuel (listed.setIfInBounds i true) (a.put oi.dst v) w→wpAnyZ P md ops Q S z (fuel+1) listed a w:=by
 intro fuel
 induction fuel with
 | zero =>
  intro listed a w _ _ hr hy hS H
  refine ⟨fun h=>(by rw [h] at hr; cases hr),fun j hj=>?_⟩
  by_cases hji:j=i
  ·subst hji; exact hy.wpOp hi hS ⟨fun _=>hS,H⟩
  ·have:=ready_mono hj hji
   rw [H.1] at this
   cases this
 | succ fuel ih =>
  intro listed a w hcl hfree hr hy hS H
  refine ⟨fun h=>(by rw [h] at hr; cases hr),fun j hj=>?_⟩
  by_cases hji:j=i
  ·subst hji; exact hy.wpOp hi hS ⟨fun _=>hS,H⟩
  ·have h1:=H.2 j (ready_mono hj hji)
   obtain ⟨hjun,oj,hoj,hall⟩:=mem_ready.1 hj
   have hjz:j≠z:=fun e=>by
    subst e
    have h2:=reachB_spec hcl f j hlast (fun oz ho e he hb=>by
     rw [hoj] at ho; cases ho; exact hall e he hb)
    have h0:=(mem_ready.1 hr).1
    rcases Nat.lt_or_ge i listed.size with h' | h'
    ·simp [h'] at h0 h2; rw [h0] at h2; cases h2
    ·simp [Array.getElem?_eq_none h'] at h2
   have hnot:∀ e∈oj.after,Region.binds md e=true→e.on≠i:=fun e he hb heq=>by
    have h1:=hall e he hb
    have h0:=(mem_ready.1 hr).1
    rw [heq] at h1
    rcases Nat.lt_or_ge i listed.size with h' | h'
    ·simp [h'] at h0 h1; rw [h0] at h1; cases h1
    ·simp [Array.getElem?_eq_none h'] at h1
   have h2:=wpOp_putIf hoj (hfree j oj hoj hji hjun hnot) (fun cs b=>hsel i oi cs b hi) (fun cs b=>hsel j oj cs b hoj) hQ hy h1
   have hfree':∀ k ok,ops[k]?=some ok→k≠i→(listed.setIfInBounds j true).getD k true=false →
     (∀ e∈ok.after,Region.binds md e=true→e.on≠i)→oi.apart ops ok=true:=fun k ok hk hki hun hno=>by
    refine hfree k ok hk hki ?_ hno
    by_cases hjk:j=k
    ·subst hjk; exact hjun
    ·rw [getD_set_ne true hjk] at hun; exact hun
   refine wpOp_mono (fun a' w' h3=>⟨h3.2.1,ih (listed.setIfInBounds j true) a' w' (hcl.step hj) hfree' (ready_mono hr (Ne.symm hji)) h3.1 (h3.2.1 hjz) ?_⟩) h2
   rw [Array.setIfInBounds_comm _ _ hji]
   exact h3.2.2
theorem wpAnyZ_takeC {i:Nat} (f:Nat) (hlast:reachB md ops i f z=true) {oi:Oper} {v:Value} {fuel:Nat} {listed:Array Bool} {a:Act} {w:World} (hi:ops[i]?=some oi)
  (hc:closdB md ops listed=true) (hs:Region.noSelect ops=true) (hf:Region.free md ops listed i=true) (hr:(Region.ready md ops listed).contains i=true)
  (hQ:∀ c a w,Q (.panic c) (a.put oi.dst v) w→Q (.panic c) a w) (hS:S w) (hy:YieldsIf P ops S oi v a)
  (h:wpAnyZ P md ops Q S z fuel (listed.setIfInBounds i true) (a.put oi.dst v) w):wpAnyZ P md ops Q S z (fuel+1) listed a w :=
 wpAnyZ_firstC hlast hi (Region.noSelect_spec hs) hQ fuel listed a w (closdB_spec hc) (Region.free_spec hi hf) (by simpa using hr) hy hS h
theorem zC {i:Nat} (f:Nat) {oi:Oper} {v:Value} {fuel:Nat} {listed:Array Bool} {a:Act} {w:World} (hb:(reachB md ops i f z && (closdB md ops listed && (Region.noSelect ops && (Region.free md ops listed i && (Region.ready md ops listed).contains i))))=true) (hi:ops[i]?=some oi)
  (hQ:∀ c a w,Q (.panic c) (a.put oi.dst v) w→Q (.panic c) a w) (hS:S w) (hy:YieldsIf P ops S oi v a)
  (h:wpAnyZ P md ops Q S z fuel (listed.setIfInBounds i true) (a.put oi.dst v) w):wpAnyZ P md ops Q S z (fuel+1) listed a w:=by
 simp only [Bool.and_eq_true] at hb
 exact wpAnyZ_takeC f hb.1 hi hb.2.1 hb.2.2.1 hb.2.2.2.1 hb.2.2.2.2 hQ hS hy h
end
abbrev ansW (W:World) (b:Nat) (c y:Int) (v:Value):World:=((W.setCell ⟨b,0,none⟩ (.int .i64 c)).setCell ⟨b,1,none⟩ (.int .i64 y)).setCell ⟨b,2,none⟩ v
abbrev ansBlk (W:World) (b:Nat) (c y:Int) (v:Value):Prop:=W.heap[b]?=some (.cells #[.int .i64 c,.int .i64 y,v] 66 (0,0))
abbrev ansObj:Obj:=.cells #[.int .i64 0,.int .i64 0,.slice none 0 0] 66
theorem aq_chain {own own1:Own} {w W1 W:World} {p b:Nat} {s':PS} {a:Ans} {e:Ending} (cg:ChgQ own w W1 own1) (hb:w.heap.size≤b) (ho1:own1 b=none) (hblk:ansBlk W1 b 0 0 (.slice none 0 0)) (h:AQ own1 W1 p s' a e W) :
  ∃ ao cap,e=.returned (ansV a.code a.why (.slice ao a.items.length cap))∧ansBlk W b 0 0 (.slice none 0 0)∧ansBlk (ansW W b a.code a.why (.slice ao a.items.length cap)) b a.code a.why (.slice ao a.items.length cap) ∧
   AQ own w p s' a (.returned (ansV a.code a.why (.slice ao a.items.length cap))) (ansW W b a.code a.why (.slice ao a.items.length cap)):=by
 obtain ⟨v,o2,G2,rfl,hrow,m2,cg2,hv⟩:=h
 obtain ⟨ao,cap,rfl⟩:=ownsRow_form hrow
 have hb1:b < W1.heap.size:=(Array.getElem?_eq_some_iff.1 hblk).1
 have ho2:o2 b=none:=cg2.off hb1 ho1
 have hW:ansBlk W b 0 0 (.slice none 0 0):=(cg2.block b hb1 ho1).trans hblk
 have hvb:∀ k,(Value.slice ao a.items.length cap).ownBlock=some k→k≠b:=fun k hk e=>by
  subst e
  rcases (hv k hk).2 with h | h
  ·exact h.1 ho1
  ·omega
 have hWW:ansW W b a.code a.why (.slice ao a.items.length cap)=W.setCells b 0 [.int .i64 a.code,.int .i64 a.why,.slice ao a.items.length cap]:=rfl
 refine ⟨ao,cap,rfl,hW,ans_stored _ _ _ hW,_,o2,G2,rfl,?_,?_,?_,?_⟩
 ·rw [hWW]; exact ownsRow_frame hrow (fun k hk=>setCells_other _ _ _ _ (hvb k hk))
 ·rw [hWW]; exact m2.free ho2 _
 ·rw [hWW]; exact (cg.trans cg2).free hb _
 ·intro k hk
  refine ⟨(hv k hk).1,?_⟩
  rcases (hv k hk).2 with h | h
  ·rcases Nat.lt_or_ge k w.heap.size with hlt | hge
   ·rcases cg.fresh k h.1 with h3 | h3
    ·refine .inl ⟨h3,fun x hx=>?_⟩
     rcases (cg.keep k x hlt hx).2 with h4 | h4
     ·exact h.1 h4
     ·exact h.2 x (h4.trans hx)
    ·omega
   ·exact .inr hge
  ·exact .inr (Nat.le_trans cg.size h)
theorem moved_chain {own own1:Own} {w W1 W:World} {p b:Nat} {s':PS} (cg:ChgQ own w W1 own1) (hb:w.heap.size≤b) (ho1:own1 b=none) (hblk:ansBlk W1 b 0 0 (.slice none 0 0)) (h:Moved own1 W1 p s' W) (c y:Int) :
  ansBlk W b 0 0 (.slice none 0 0)∧ansBlk (ansW W b c y (.slice none 0 0)) b c y (.slice none 0 0)∧AQ own w p s' ⟨c,y,[]⟩ (.returned (ansV c y (.slice none 0 0))) (ansW W b c y (.slice none 0 0)):=by
 obtain ⟨o2,G2,m2,cg2⟩:=h
 have hb1:b < W1.heap.size:=(Array.getElem?_eq_some_iff.1 hblk).1
 have ho2:o2 b=none:=cg2.off hb1 ho1
 have hW:ansBlk W b 0 0 (.slice none 0 0):=(cg2.block b hb1 ho1).trans hblk
 have hWW:ansW W b c y (.slice none 0 0)=W.setCells b 0 [.int .i64 c,.int .i64 y,.slice none 0 0]:=rfl
 refine ⟨hW,ans_stored _ _ _ hW,Moved.plain ⟨o2,G2,?_,?_⟩ _ _⟩
 ·rw [hWW]; exact m2.free ho2 _
 ·rw [hWW]; exact (cg.trans cg2).free hb _
theorem still_chain {own:Own} {w W:World} {p b:Nat} {s:PS} {G:PG} (m:PMem w p s own G) (hB:Below w.heap.size w W) (hb:w.heap.size≤b) (hblk:ansBlk W b 0 0 (.slice none 0 0)) (c y:Int) :
  ansBlk (ansW W b c y (.slice none 0 0)) b c y (.slice none 0 0)∧AQ own w p s ⟨c,y,[]⟩ (.returned (ansV c y (.slice none 0 0))) (ansW W b c y (.slice none 0 0)) :=
 have h:=moved_chain (ChgQ.of_below hB) hb (m.off hb) hblk ((m.below hB).went (Below.refl _ _)) c y
 ⟨h.2.1,h.2.2⟩
theorem PMem.keysC {w:World} {p:Nat} {s:PS} {own:Own} {G:PG} (m:PMem w p s own G):w.cell? ⟨p,0,none⟩=some (.int .i64 s.k)∧w.cell? ⟨p,1,none⟩=some (.int .i64 s.v)∧w.cell? ⟨p,2,none⟩=some (.int .i64 s.c) :=
 ⟨m.cfg 0 _ rfl,m.cfg 1 _ rfl,m.cfg 2 _ rfl⟩
theorem entry2 {w:World} {x:Stp}:Hid (Below w.heap.size w ((w.alloc (stpObj x)).alloc ansObj))∧Hid (((w.alloc (stpObj x)).alloc ansObj).heap[w.heap.size]?=some (.cells (stepC x).toArray 30 (0,0)))∧Hid (ansBlk ((w.alloc (stpObj x)).alloc ansObj) (w.heap.size+1) 0 0 (.slice none 0 0)):=by
 refine ⟨below2r,?_,?_⟩
 ·show _=_
  rw [heap_alloc_old (by simp)]; exact heap_alloc_new w _
 ·show _=_
  have:=heap_alloc_new (w.alloc (stpObj x)) ansObj
  rw [World.size_alloc] at this
  exact this
theorem put_is {w:World} {p q n:Nat} {x:Stp} {s:PS} {own:Own} {G:PG} (m:PMem w p s own G) (hq:q < 32) (hn:n < 4) (hx:x.who=whoOf q n) (hk:0≤x.key∧x.key≤15) :
  Calls Try.prog 97 #[.pointer (some ⟨p,0,none⟩),stepV x] w (AQ own w p (s.putT q n x).1 (s.putT q n x).2):=by
 have M:Hid (PMem w p s own G):=m
 have hp:=m.lt
 have zn:(n:Int) < 4:=by omega
 clear m
 obtain ⟨⟨x0,x1,x2⟩,x3,⟨x4,x5⟩,x6,x7,x8⟩:=x
 simp only [whoOf,Prod.mk.injEq] at hx
 simp only at hk
 obtain ⟨h0,h1,h2⟩:=hx
 subst h2
 obtain ⟨k,rfl⟩:∃ k:Nat,x6=(k:Int):=⟨x6.toNat,by omega⟩
 have hk16:k < 16:=by omega
 have Ha:Hid ((x0,x1)=labOf q):=by show _=_; rw [h0,h1]
 have hlab:labB x0 x1=true:=by rw [h0,h1]; exact labOf_ok hq
 have hpl:plOf (x0,x1)=q:=by rw [Ha.out]; exact plOf_labOf hq
 clear h0 h1 hk
 have HP:Hid (s.putT q n ⟨(x0,x1,(n:Int)),x3,(x4,x5),(k:Int),x7,x8⟩=if (s.t q).takenB k=false∧s.k≤((s.t q).takenTo 16:Int) then (s,⟨4,0,[]⟩) else (s.setW q n (((s.t q).ses n).wr.putT k x8),⟨0,0,[]⟩)):=by show _=_; unfold PS.putT; simp
 unfold stepV
 go_enter Try.func97,Try.ntmps97
 go_upto_region 1 with fail
 obtain ⟨B1,L0,L1⟩:=entry2 (w:=w) (x:=⟨(x0,x1,(n:Int)),x3,(x4,x5),(k:Int),x7,x8⟩)
 unfold stpObj ansObj at *
 simp only at *
 generalize (w.alloc _).alloc _=W1 at *
 have M1:Hid (PMem W1 p s own G):=M.out.below B1.out
 have hs1:w.heap.size+1 < W1.heap.size:=(Array.getElem?_eq_some_iff.1 L1.out).1
 obtain ⟨r0,r1,r2,r3,r4,r5,r6,r7,r8⟩:=stp_cells (loc_stp L0.out)
 simp only [Nat.zero_add] at r0 r1 r2 r3 r4 r5 r6 r7 r8
 go_wp2_with fail
 refine (tier_is (a:=(x0,x1)) hlab hpl).mono ?_
 rintro e w2 ⟨rfl,hb2⟩
 have B2:Hid (Below w.heap.size w w2):=B1.out.trans (hb2.mono B1.out.size)
 have M2:Hid (PMem w2 p s own G):=M.out.below B2.out
 have L02:Hid (w2.heap[w.heap.size]?=_):=(hb2.block _ (by omega)).trans L0.out
 have L12:Hid (ansBlk w2 (w.heap.size+1) 0 0 (.slice none 0 0)):=(hb2.block _ (by omega)).trans L1.out
 obtain ⟨s0,s1,s2,s3,s4,s5,s6,s7,s8⟩:=stp_cells (loc_stp L02.out)
 simp only [Nat.zero_add] at s0 s1 s2 s3 s4 s5 s6 s7 s8
 have hs2:w.heap.size+1 < w2.heap.size:=(Array.getElem?_eq_some_iff.1 L12.out).1
 have hp2:=M2.out.lt
 obtain ⟨e0,e1,e2,f0,f1,f2⟩:=ans_cells L12.out
 obtain ⟨k0,_,_⟩:=M2.out.keysC
 clear r0 r1 r2 r3 r4 r5 r6 r7 r8 L0 L1 hb2 M1 B1
 have HS:Hid (∀ W,Below w2.heap.size w2 W→W.cell? ⟨w.heap.size,2,none⟩=some (.int .i64 (n:Int))∧W.cell? ⟨w.heap.size,6,none⟩=some (.int .i64 (k:Int))∧W.cell? ⟨w.heap.size,8,none⟩=some (.int .i64 x8)):=fun W hB=>⟨cell_later hB s2,cell_later hB s6,cell_later hB s8⟩
 have hS:=HS.out w2.drew (Below.refl _ _).drew
 have M2d:Hid (PMem w2.drew p s own G):=M2.out.below (Below.refl _ _).drew
 have CG2d:Hid (ChgQ own w w2.drew own):=ChgQ.of_below B2.out.drew
 have Htk:Hid (Calls Try.prog 117 #[.pointer (some ⟨p,tO q,none⟩),.int .i64 (k:Int)] w2 fun e w'=>e=.returned (.bool ((s.t q).takenB k))∧w2=w'):=isTaken_is M2.out hq hk16 rfl
 cases htk:(s.t q).takenB k
 ·rw [htk] at HP Htk
  go_wp2_with fail
  refine Htk.out.mono ?_
  rintro e w3 ⟨rfl,rfl⟩
  go_wp2_with fail
  have kne:=kin_some w2
  have kk:=kin_cell k0
  have HTn:Hid (∀ x:Kin w2,Calls Try.prog 118 #[.pointer (some ⟨p,tO q,none⟩)] x.w fun e w'=>e=.returned (.int .i64 ((s.t q).takenTo 16:Nat))∧Below x.w.heap.size x.w w'):=fun x=>(taken_is (M2.out.below x.h) hq).mono fun e w' ⟨h1,h2⟩=>⟨h1,by subst h2; exact Below.refl _ _⟩
  have htl:(s.t q).takenTo 16≤16:=trTaken_le _ _
  refine wp_region_kin (by kernel_rfl) (by kernel_rfl) ?_
  repeat (first | go_big_quiet_step ((go_at_call 118; exact Calls.kin (HTn.out _))) | quiet_step ((go_at_call 118; exact Calls.kin (HTn.out _))))
  refine wpQuiet_nil ?_
  intro _ hw'
  obtain ⟨xq,hw''⟩:=hw'
  subst hw''
  have B3:Hid (Below w.heap.size w xq.w):=B2.out.trans (xq.h.mono B2.out.size)
  have L13:Hid (ansBlk xq.w (w.heap.size+1) 0 0 (.slice none 0 0)):=(xq.h.block _ (by omega)).trans L12.out
  have HS3:Hid (∀ W,Below xq.w.heap.size xq.w W→W.cell? ⟨w.heap.size,2,none⟩=some (.int .i64 (n:Int))∧W.cell? ⟨w.heap.size,6,none⟩=some (.int .i64 (k:Int))∧W.cell? ⟨w.heap.size,8,none⟩=some (.int .i64 x8)):=fun W hB=>HS.out W (xq.h.trans (hB.mono xq.h.size))
  have hs3:w.heap.size+1 < xq.w.heap.size:=Nat.lt_of_lt_of_le hs2 xq.h.size
  clear kne kk HTn
  generalize xq.w=w3 at *
  clear s0 s1 s2 s3 s4 s5 s6 s7 s8 e0 e1 e2 f0 f1 f2 hS HS k0
  by_cases hfull:s.k≤((s.t q).takenTo 16:Int)
  ·have HP':Hid (s.putT q n ⟨(x0,x1,(n:Int)),x3,(x4,x5),(k:Int),x7,x8⟩=(s,⟨4,0,[]⟩)):=by have:=HP.out; rw [if_pos ⟨trivial,hfull⟩] at this; exact this
   obtain ⟨a1,a2⟩:=still_chain M.out B3.out (by omega) L13.out 4 0
   have A1:Hid (ansBlk _ _ _ _ _):=a1
   have A2:Hid (AQ _ _ _ _ _ _ _):=a2
   obtain ⟨e0,e1,e2,f0,f1,f2⟩:=ans_cells L13.out
   clear a1 a2
   go_wp2
   refine ret_ans Try.results97 rfl A1.out rfl ?_
   rw [HP'.out]; exact A2.out
  ·have HP':Hid (s.putT q n ⟨(x0,x1,(n:Int)),x3,(x4,x5),(k:Int),x7,x8⟩=(s.setW q n (((s.t q).ses n).wr.putT k x8),⟨0,0,[]⟩)):=by have:=HP.out; rw [if_neg (fun h=>hfull h.2)] at this; exact this
   have hS:=HS3.out w3.drew (Below.refl _ _).drew
   have M3d:Hid (PMem w3.drew p s own G):=M.out.below B3.out.drew
   have CG3d:Hid (ChgQ own w w3.drew own):=ChgQ.of_below B3.out.drew
   have L13d:Hid (ansBlk w3.drew (w.heap.size+1) 0 0 (.slice none 0 0)):=L13.out
   go_upto_region 5 with fail
   refine wp_region_Z (z:=12) (S:=fun W=>W.cell? ⟨w.heap.size,2,none⟩=some (.int .i64 (n:Int))∧W.cell? ⟨w.heap.size,6,none⟩=some (.int .i64 (k:Int))∧W.cell? ⟨w.heap.size,8,none⟩=some (.int .i64 x8)) (by kernel_rfl) ?_
   refine zC 9 (i:=0) (v:=?v1) (by decide +kernel) rfl (fun _ _ _ h=>h) hS (.inl ⟨by rfl,?y1⟩) ?_
   case y1=>(rintro wz ⟨zs0,zs1,zs2⟩; go_simp<;>with_reducible rfl)
   simp only [Act.put,z1,z2,z4]
   refine zC 9 (i:=1) (v:=?v2) (by decide +kernel) rfl (fun _ _ _ h=>h) hS (.inl ⟨by rfl,?y2⟩) ?_
   case y2=>(rintro wz ⟨zs0,zs1,zs2⟩; go_simp<;>with_reducible rfl)
   simp only [Act.put,z1,z2,z3,z4,z5,z6]
   refine zC 9 (i:=2) (v:=?v3) (by decide +kernel) rfl (fun _ _ _ h=>h) hS (.inl ⟨by rfl,?y3⟩) ?_
   case y3=>(rintro wz ⟨zs0,zs1,zs2⟩; go_simp<;>with_reducible rfl)
   simp only [Act.put,z1,z2,z3,z4,z5,z6]
   refine zC 9 (i:=3) (v:=?v4) (by decide +kernel) rfl (fun _ _ _ h=>h) hS (.inl ⟨by rfl,?y4⟩) ?_
   case y4=>(rintro wz ⟨zs0,zs1,zs2⟩; go_simp<;>with_reducible rfl)
   simp only [Act.put,z1,z2,z3,z4,z5,z6]
   refine zC 9 (i:=4) (v:=?v5) (by decide +kernel) rfl (fun _ _ _ h=>h) hS (.inl ⟨by rfl,?y5⟩) ?_
   case y5=>(rintro wz ⟨zs0,zs1,zs2⟩; go_simp<;>with_reducible rfl)
   simp only [Act.put,z1,z2,z3,z4,z5,z6]
   refine zC 9 (i:=5) (v:=?v6) (by decide +kernel) rfl (fun _ _ _ h=>h) hS (.inl ⟨by rfl,?y6⟩) ?_
   case y6=>(rintro wz ⟨zs0,zs1,zs2⟩; go_simp<;>with_reducible rfl)
   simp only [Act.put,z1,z2,z3,z4,z5,z6]
   refine zC 9 (i:=6) (v:=?v7) (by decide +kernel) rfl (fun _ _ _ h=>h) hS (.inl ⟨by rfl,?y7⟩) ?_
   case y7=>(rintro wz ⟨zs0,zs1,zs2⟩; go_simp<;>with_reducible rfl)
   simp only [Act.put,z1,z2,z3,z4,z5,z6]
   refine zC 9 (i:=7) (v:=?v8) (by decide +kernel) rfl (fun _ _ _ h=>h) hS (.inl ⟨by rfl,?y8⟩) ?_
   case y8=>(rintro wz ⟨zs0,zs1,zs2⟩; go_simp<;>with_reducible rfl)
   simp only [Act.put,z1,z2,z3,z4,z5,z6]
   refine zC 9 (i:=8) (v:=?v9) (by decide +kernel) rfl (fun _ _ _ h=>h) hS (.inl ⟨by rfl,?y9⟩) ?_
   case y9=>(rintro wz ⟨zs0,zs1,zs2⟩; go_simp<;>with_reducible rfl)
   simp only [Act.put,z1,z2,z3,z4,z5,z6]
   refine zC 9 (i:=9) (v:=?v10) (by decide +kernel) rfl (fun _ _ _ h=>h) hS (.inl ⟨by rfl,?y10⟩) ?_
   case y10=>(rintro wz ⟨zs0,zs1,zs2⟩; go_simp<;>with_reducible rfl)
   simp only [Act.put,z1,z2,z3,z4,z5,z6]
   refine zC 9 (i:=10) (v:=?v11) (by decide +kernel) rfl (fun _ _ _ h=>h) hS (.inl ⟨by rfl,?y11⟩) ?_
   case y11=>(rintro wz ⟨zs0,zs1,zs2⟩; go_simp<;>with_reducible rfl)
   simp only [Act.put,z1,z2,z3,z4,z5,z6]
   refine zC 9 (i:=11) (v:=?v12) (by decide +kernel) rfl (fun _ _ _ h=>h) hS (.inl ⟨by rfl,?y12⟩) ?_
   case y12=>(rintro wz ⟨zs0,zs1,zs2⟩; go_simp<;>with_reducible rfl)
   simp only [Act.put,z1,z2,z3,z4,z5,z6]
   refine wpAnyZ_one (i:=12) (by decide +kernel) rfl (fun K hK=>?_)
   go_simp
   refine (wrPut_is M3d.out hq hn hk16).mono ?_
   rintro e w4 ⟨rfl,hmv⟩
   refine hK _ _ (fun h=>absurd rfl h) ?_
   clear hK
   refine wpAnyZ_done (by decide +kernel) ?_ _
   obtain ⟨b0,b1,b2⟩:=moved_chain CG3d.out (by omega) (M.out.off (by omega)) L13d.out hmv 0 0
   obtain ⟨e0,e1,e2,f0,f1,f2⟩:=ans_cells b0
   have A1:Hid (ansBlk _ _ _ _ _):=b1
   have A2:Hid (AQ _ _ _ _ _ _ _):=b2
   clear b0 b1 b2 hmv
   go_wp2
   refine ret_ans Try.results97 rfl A1.out rfl ?_
   rw [HP'.out]; exact A2.out
 ·rw [htk] at HP Htk
  have HP':Hid (s.putT q n ⟨(x0,x1,(n:Int)),x3,(x4,x5),(k:Int),x7,x8⟩=(s.setW q n (((s.t q).ses n).wr.putT k x8),⟨0,0,[]⟩)):=by have:=HP.out; rw [if_neg (fun h=>by cases h.1)] at this; exact this
  go_wp2_with fail
  refine Htk.out.mono ?_
  rintro e w3 ⟨rfl,rfl⟩
  have M3d:Hid (PMem w2.drew p s own G):=M2d
  have CG3d:Hid (ChgQ own w w2.drew own):=CG2d
  have L13d:Hid (ansBlk w2.drew (w.heap.size+1) 0 0 (.slice none 0 0)):=L12.out
  clear s0 s1 s2 s3 s4 s5 s6 s7 s8 e0 e1 e2 f0 f1 f2 HS k0
  go_upto_region 5 with fail
  refine wp_region_Z (z:=12) (S:=fun W=>W.cell? ⟨w.heap.size,2,none⟩=some (.int .i64 (n:Int))∧W.cell? ⟨w.heap.size,6,none⟩=some (.int .i64 (k:Int))∧W.cell? ⟨w.heap.size,8,none⟩=some (.int .i64 x8)) (by kernel_rfl) ?_
  refine zC 9 (i:=0) (v:=?v13) (by decide +kernel) rfl (fun _ _ _ h=>h) hS (.inl ⟨by rfl,?y13⟩) ?_
  case y13=>(rintro wz ⟨zs0,zs1,zs2⟩; go_simp<;>with_reducible rfl)
  simp only [Act.put,z1,z2,z4]
  refine zC 9 (i:=1) (v:=?v14) (by decide +kernel) rfl (fun _ _ _ h=>h) hS (.inl ⟨by rfl,?y14⟩) ?_
  case y14=>(rintro wz ⟨zs0,zs1,zs2⟩; go_simp<;>with_reducible rfl)
  simp only [Act.put,z1,z2,z3,z4,z5,z6]
  refine zC 9 (i:=2) (v:=?v15) (by decide +kernel) rfl (fun _ _ _ h=>h) hS (.inl ⟨by rfl,?y15⟩) ?_
  case y15=>(rintro wz ⟨zs0,zs1,zs2⟩; go_simp<;>with_reducible rfl)
  simp only [Act.put,z1,z2,z3,z4,z5,z6]
  refine zC 9 (i:=3) (v:=?v16) (by decide +kernel) rfl (fun _ _ _ h=>h) hS (.inl ⟨by rfl,?y16⟩) ?_
  case y16=>(rintro wz ⟨zs0,zs1,zs2⟩; go_simp<;>with_reducible rfl)
  simp only [Act.put,z1,z2,z3,z4,z5,z6]
  refine zC 9 (i:=4) (v:=?v17) (by decide +kernel) rfl (fun _ _ _ h=>h) hS (.inl ⟨by rfl,?y17⟩) ?_
  case y17=>(rintro wz ⟨zs0,zs1,zs2⟩; go_simp<;>with_reducible rfl)
  simp only [Act.put,z1,z2,z3,z4,z5,z6]
  refine zC 9 (i:=5) (v:=?v18) (by decide +kernel) rfl (fun _ _ _ h=>h) hS (.inl ⟨by rfl,?y18⟩) ?_
  case y18=>(rintro wz ⟨zs0,zs1,zs2⟩; go_simp<;>with_reducible rfl)
  simp only [Act.put,z1,z2,z3,z4,z5,z6]
  refine zC 9 (i:=6) (v:=?v19) (by decide +kernel) rfl (fun _ _ _ h=>h) hS (.inl ⟨by rfl,?y19⟩) ?_
  case y19=>(rintro wz ⟨zs0,zs1,zs2⟩; go_simp<;>with_reducible rfl)
  simp only [Act.put,z1,z2,z3,z4,z5,z6]
  refine zC 9 (i:=7) (v:=?v20) (by decide +kernel) rfl (fun _ _ _ h=>h) hS (.inl ⟨by rfl,?y20⟩) ?_
  case y20=>(rintro wz ⟨zs0,zs1,zs2⟩; go_simp<;>with_reducible rfl)
  simp only [Act.put,z1,z2,z3,z4,z5,z6]
  refine zC 9 (i:=8) (v:=?v21) (by decide +kernel) rfl (fun _ _ _ h=>h) hS (.inl ⟨by rfl,?y21⟩) ?_
  case y21=>(rintro wz ⟨zs0,zs1,zs2⟩; go_simp<;>with_reducible rfl)
  simp only [Act.put,z1,z2,z3,z4,z5,z6]
  refine zC 9 (i:=9) (v:=?v22) (by decide +kernel) rfl (fun _ _ _ h=>h) hS (.inl ⟨by rfl,?y22⟩) ?_
  case y22=>(rintro wz ⟨zs0,zs1,zs2⟩; go_simp<;>with_reducible rfl)
  simp only [Act.put,z1,z2,z3,z4,z5,z6]
  refine zC 9 (i:=10) (v:=?v23) (by decide +kernel) rfl (fun _ _ _ h=>h) hS (.inl ⟨by rfl,?y23⟩) ?_
  case y23=>(rintro wz ⟨zs0,zs1,zs2⟩; go_simp<;>with_reducible rfl)
  simp only [Act.put,z1,z2,z3,z4,z5,z6]
  refine zC 9 (i:=11) (v:=?v24) (by decide +kernel) rfl (fun _ _ _ h=>h) hS (.inl ⟨by rfl,?y24⟩) ?_
  case y24=>(rintro wz ⟨zs0,zs1,zs2⟩; go_simp<;>with_reducible rfl)
  simp only [Act.put,z1,z2,z3,z4,z5,z6]
  refine wpAnyZ_one (i:=12) (by decide +kernel) rfl (fun K hK=>?_)
  go_simp
  refine (wrPut_is M3d.out hq hn hk16).mono ?_
  rintro e w4 ⟨rfl,hmv⟩
  refine hK _ _ (fun h=>absurd rfl h) ?_
  clear hK
  refine wpAnyZ_done (by decide +kernel) ?_ _
  obtain ⟨b0,b1,b2⟩:=moved_chain CG3d.out (by omega) (M.out.off (by omega)) L13d.out hmv 0 0
  obtain ⟨e0,e1,e2,f0,f1,f2⟩:=ans_cells b0
  have A1:Hid (ansBlk _ _ _ _ _):=b1
  have A2:Hid (AQ _ _ _ _ _ _ _):=b2
  clear b0 b1 b2 hmv
  go_wp2
  refine ret_ans Try.results97 rfl A1.out rfl ?_
  rw [HP'.out]; exact A2.out
end Go.Proofs.Ytpbcplfpjcacfaa
