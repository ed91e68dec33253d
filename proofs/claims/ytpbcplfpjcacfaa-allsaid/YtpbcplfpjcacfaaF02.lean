import Derived.Deep.AppendLies
import Derived.Great.FillDense
import Derived.Deep.WholeRow
import Derived.Test.YtpbcplfpjcacfaaF01
namespace Go.Proofs.Ytpbcplfpjcacfaa
open Go.RowKit
set_option maxRecDepth 100000
set_option maxHeartbeats 8000000
def ansV (code why:Int) (v:Value):Value:=.agg #[.int .i64 code,.int .i64 why,v]
def inB (l:List Int) (n:Int):Bool:=l.any (fun x=>x == n)
def takIx (a:Lab) (key:Int) (l:List Tx):Bool:=l.any (fun t=>sameL t.who.1 t.who.2.1 a.1 a.2 && inB t.puts key)
def RS.taken (st:RS) (a:Lab) (key:Int):Bool:=decide (0≤st.comm a key) || takIx a key st.txns
section
variable {P:Program} {ops:Array Oper} {Q:Exit→Act→World→Prop} {md:Region.Mode} {S:World→Prop} {z:Nat}
def wpAnyZ (P:Program) (md:Region.Mode) (ops:Array Oper) (Q:Exit→Act→World→Prop) (S:World→Prop) (z:Nat):Nat→Array Bool→Act→World→Prop
 | 0,listed,a,w=>Region.ready md ops listed=[]∧Q .normal a w
 | fuel+1,listed,a,w =>
  (Region.ready md ops listed=[]→Q .normal a w) ∧
  ∀ i∈Region.ready md ops listed,wpOp P ops Q i (fun a' w'=>(i≠z→S w')∧wpAnyZ P md ops Q S z fuel (listed.setIfInBounds i true) a' w') a w
theorem wpAny_of_Z:∀ (fuel:Nat) (listed:Array Bool) (a:Act) (w:World),wpAnyZ P md ops Q S z fuel listed a w→wpAny P md ops Q fuel listed a w
 | 0,_,_,_,h=>h
 | fuel+1,_,_,_,h=>⟨h.1,fun i hi=>wpOp_mono (fun a' w' h'=>wpAny_of_Z fuel _ a' w' h'.2) (h.2 i hi)⟩
def edgeB (md:Region.Mode) (ops:Array Oper) (z i:Nat):Bool :=
 match ops[z]? with
 | none=>false
 | some oz=>oz.after.any (fun e=>Region.binds md e && e.on == i)
theorem edgeB_spec {i:Nat} (h:edgeB md ops z i=true) {listed:Array Bool} (hz:z∈Region.ready md ops listed):listed.getD i false=true:=by
 obtain ⟨_,oz,hoz,hall⟩:=mem_ready.1 hz
 unfold edgeB at h
 rw [hoz] at h
 obtain ⟨e,he,h2⟩:=Array.any_eq_true'.1 h
 simp only [Bool.and_eq_true,beq_iff_eq] at h2
 have:=hall e he h2.1
 rw [h2.2] at this
 exact this
theorem wpAnyZ_first {i:Nat} (hlast:edgeB md ops z i=true) {oi:Oper} {v:Value} (hi:ops[i]?=some oi) (hsel:∀ (j:Nat) (o:Oper) cs b,ops[j]?=some o→o.op≠.select cs b)
  (hQ:∀ c a w,Q (.panic c) (a.put oi.dst v) w→Q (.panic c) a w) :
  ∀ (fuel:Nat) (listed:Array Bool) (a:Act) (w:World),
   (∀ j oj,ops[j]?=some oj→j≠i→listed.getD j true=false→(∀ e∈oj.after,Region.binds md e=true→e.on≠i)→oi.apart ops oj=true) →
   i∈Region.ready md ops listed→YieldsIf P ops S oi v a→S w →
   wpAnyZ P md ops Q S z fuel (listed.setIfInBounds i true) (a.put oi.dst v) w→wpAnyZ P md ops Q S z (fuel+1) listed a w:=by
 intro fuel
 induction fuel with
 | zero =>
  intro listed a w _ hr hy hS H
  refine ⟨fun h=>(by rw [h] at hr; cases hr),fun j hj=>?_⟩
  by_cases hji:j=i
  ·subst hji; exact hy.wpOp hi hS ⟨fun _=>hS,H⟩
  ·have:=ready_mono hj hji
   rw [H.1] at this
   cases this
 | succ fuel ih =>
  intro listed a w hfree hr hy hS H
  refine ⟨fun h=>(by rw [h] at hr; cases hr),fun j hj=>?_⟩
  by_cases hji:j=i
  ·subst hji; exact hy.wpOp hi hS ⟨fun _=>hS,H⟩
  ·have h1:=H.2 j (ready_mono hj hji)
   obtain ⟨hjun,oj,hoj,hall⟩:=mem_ready.1 hj
   have hjz:j≠z:=fun e=>by
    subst e
    have h2:=edgeB_spec hlast hj
    have h0:=(mem_ready.1 hr).1
    rcases Nat.lt_or_ge i listed.size with h' | h'
    ·simp [h'] at h0 h2; rw [h0] at h2; cases h2
    ·simp [Array.getElem?_eq_none h'] at h2
   have hnot:∀ e∈oj.after,Region.binds md e=true→e.on≠i:=fun e he hb heq=>by
    have h1:=hall e he hb
    have h0:=(mem_ready.1 hr).1
    rw [heq] at h1
    rcases Nat.lt_or_ge i listed.size with h' | h'
    ·simp [h'] at h0 h1; rw [h0] at h1; cases h1
    ·simp [Array.getElem?_eq_none h'] at h1
   have h2:=wpOp_putIf hoj (hfree j oj hoj hji hjun hnot) (fun cs b=>hsel i oi cs b hi) (fun cs b=>hsel j oj cs b hoj) hQ hy h1
   have hfree':∀ k ok,ops[k]?=some ok→k≠i→(listed.setIfInBounds j true).getD k true=false →
     (∀ e∈ok.after,Region.binds md e=true→e.on≠i)→oi.apart ops ok=true:=fun k ok hk hki hun hno=>by
    refine hfree k ok hk hki ?_ hno
    by_cases hjk:j=k
    ·subst hjk; exact hjun
    ·rw [getD_set_ne true hjk] at hun; exact hun
   refine wpOp_mono (fun a' w' h3=>⟨h3.2.1,ih (listed.setIfInBounds j true) a' w' hfree' (ready_mono hr (Ne.symm hji)) h3.1 (h3.2.1 hjz) ?_⟩) h2
   rw [Array.setIfInBounds_comm _ _ hji]
   exact h3.2.2
theorem wpAnyZ_take {i:Nat} (hlast:edgeB md ops z i=true) {oi:Oper} {v:Value} {fuel:Nat} {listed:Array Bool} {a:Act} {w:World} (hi:ops[i]?=some oi)
  (hs:Region.noSelect ops=true) (hf:Region.free md ops listed i=true) (hr:(Region.ready md ops listed).contains i=true)
  (hQ:∀ c a w,Q (.panic c) (a.put oi.dst v) w→Q (.panic c) a w) (hS:S w) (hy:YieldsIf P ops S oi v a)
  (h:wpAnyZ P md ops Q S z fuel (listed.setIfInBounds i true) (a.put oi.dst v) w):wpAnyZ P md ops Q S z (fuel+1) listed a w :=
 wpAnyZ_first hlast hi (Region.noSelect_spec hs) hQ fuel listed a w (Region.free_spec hi hf) (by simpa using hr) hy hS h
theorem zT {i:Nat} {oi:Oper} {v:Value} {fuel:Nat} {listed:Array Bool} {a:Act} {w:World} (hb:(edgeB md ops z i && (Region.noSelect ops && (Region.free md ops listed i && (Region.ready md ops listed).contains i)))=true) (hi:ops[i]?=some oi)
  (hQ:∀ c a w,Q (.panic c) (a.put oi.dst v) w→Q (.panic c) a w) (hS:S w) (hy:YieldsIf P ops S oi v a)
  (h:wpAnyZ P md ops Q S z fuel (listed.setIfInBounds i true) (a.put oi.dst v) w):wpAnyZ P md ops Q S z (fuel+1) listed a w:=by
 simp only [Bool.and_eq_true] at hb
 exact wpAnyZ_take hb.1 hi hb.2.1 hb.2.2.1 hb.2.2.2 hQ hS hy h
theorem z1 {α:Type} {xs:List α} {i:Nat} (h:i < xs.toArray.size):xs.toArray[i]=xs[i]'(by simpa using h):=rfl
theorem z2 {α:Type} {a:α} {bs:List α} (h:0 < (a :: bs).length):(a :: bs)[0]=a:=rfl
theorem z3 {α:Type} {a:α} {bs:List α} {i:Nat} (h:i+1 < (a :: bs).length):(a :: bs)[i+1]=bs[i]'(by simpa using h):=rfl
theorem z4 {α:Type} {l:List α} {i:Nat} {a:α}:l.toArray.setIfInBounds i a=(l.set i a).toArray:=by simp
theorem z5 {α:Type} {a b:α} {bs:List α}:(a :: bs).set 0 b=b :: bs:=rfl
theorem z6 {α:Type} {a b:α} {bs:List α} {i:Nat}:(a :: bs).set (i+1) b=a :: bs.set i b:=rfl
theorem wpAnyZ_one {i:Nat} {o:Oper} {fuel:Nat} {listed:Array Bool} {a:Act} {w:World} (hr:Region.ready md ops listed=[i]) (ho:ops[i]?=some o)
  (h:∀ K':Act→World→Prop,Shut (∀ a w,(i≠z→S w)→wpAnyZ P md ops Q S z fuel (listed.setIfInBounds i true) a w→K' a w)→if Region.wanted o (yielded ops a.tmps)=true then Oper.wp P o a w K' Q else K' (a.put o.dst undef) w) :
  wpAnyZ P md ops Q S z (fuel+1) listed a w :=
 ⟨fun h0=>by (rw [hr] at h0; cases h0),fun j hj=>by
  rw [hr] at hj
  rcases List.mem_cons.1 hj with rfl | hj
  ·exact wpOp_step ho (fun K' hK=>h K' (fun a w hS hW=>hK a w ⟨hS,hW⟩))
  ·cases hj⟩
theorem wpAnyZ_done {listed:Array Bool} {a:Act} {w:World} (hr:Region.ready md ops listed=[]) (h:Q .normal a w) :
  ∀ fuel,wpAnyZ P md ops Q S z fuel listed a w
 | 0=>⟨hr,h⟩
 | _+1=>⟨fun _=>h,by rw [hr]; simp⟩
theorem wp_region_Z {id:Nat} {a:Act} {w:World} (hm:P.follows .mixedOrders=true)
  (h:wpAnyZ P .any ops Q S z ops.size (Array.replicate ops.size false) a w.drew):(Code.region id ops true).wp P Q a w :=
 wp_region_any hm (wpAny_of_Z _ _ _ _ h)
end
structure Chg (own:Own) (w w':World) (own':Own):Prop where
 os:w'.os=w.os
 tape:w'.tape=w.tape
 output:w'.output=w.output
 size:w.heap.size≤w'.heap.size
 block:∀ k,k < w.heap.size→own k=none→w'.heap[k]?=w.heap[k]?
 ext:∀ k t,own k=some t→own' k=some t
 fresh:∀ k,own' k≠none→own k≠none∨w.heap.size≤k
theorem Chg.of_below {own:Own} {w w':World} (h:Below w.heap.size w w'):Chg own w w' own :=
 ⟨h.os,h.tape,h.output,h.size,fun k hk _=>h.block k hk,fun _ _ h=>h,fun _ h=>.inl h⟩
theorem Row.frame {α:Type} {w w':World} {own own':Own} {tag:Tag} {e size:Nat} {v:Value} {l:List α} {f:α→List Value} (h:Row w own tag e size v l f)
  (hk:∀ b,own b=some tag→w'.heap[b]?=w.heap[b]?) (hx:∀ b,own b=some tag→own' b=some tag):Row w' own' tag e size v l f:=by
 obtain ⟨⟨hl,ho⟩,ht⟩:=h
 refine ⟨⟨hl,?_⟩,fun b hb=>hx b (ht b hb)⟩
 rcases ho with h | ⟨b,c,d,e1,e2,e3,e4⟩
 ·exact .inl h
 ·refine .inr ⟨b,c,d,e1,e2,?_,e4⟩
  rw [hk b (ht b (by rw [e1]; rfl))]; exact e3
theorem heap_setCell_ne (w:World) (b j:Nat) (k:Nat) (v:Value) (h:k≠b):(w.setCell ⟨b,j,none⟩ v).heap[k]?=w.heap[k]?:=Go.heap_setCell_other w ⟨b,j,none⟩ k v h
def ownAdd (own:Own) (g:Nat) (t:Tag):Own:=fun b=>if b=g then some t else own b
theorem grow_root {α:Type} {wr W w1:World} {own:Own} {r j gg cap' H e size ty:Nat} {v0:Value} {t0:Tag} {l:List α} {x:α} {f:α→List Value} {C:Array Value}
  (hroot:wr.heap[r]?=some (.cells C ty (0,0))) (hrt:own r=some (1,0,0,0)) (ht0:t0≠(1,0,0,0)) (hold:∀ k,own k≠none→k < wr.heap.size) (hv0:∀ b,v0.ownBlock=some b→own b=some t0)
  (hWb:∀ k,k < wr.heap.size→W.heap[k]?=wr.heap[k]?) (hWs:wr.heap.size≤W.heap.size) (hWo:W.os=wr.os) (hWt:W.tape=wr.tape) (hWp:W.output=wr.output)
  (hgrow:W.grownBy w1 v0.ownBlock) (hown1:w1.ownsRow 0 e size (.slice (some ⟨gg,0,none⟩) (l.length+1) cap') (l.length+1) (l.flatMap f++f x))
  (hat:v0.ownBlock=some gg∨gg=H) (hH:wr.heap.size≤H) (hlt:gg < w1.heap.size) :
  Chg own wr (w1.setCell ⟨r,j,none⟩ (.slice (some ⟨gg,0,none⟩) (l.length+1) cap')) (ownAdd own gg t0) ∧
  (∀ b t,own b=some t→t≠t0→t≠(1,0,0,0)→(w1.setCell ⟨r,j,none⟩ (.slice (some ⟨gg,0,none⟩) (l.length+1) cap')).heap[b]?=wr.heap[b]?) ∧
  (w1.setCell ⟨r,j,none⟩ (.slice (some ⟨gg,0,none⟩) (l.length+1) cap')).heap[r]?=some (.cells (C.setIfInBounds j (.slice (some ⟨gg,0,none⟩) (l.length+1) cap')) ty (0,0)) ∧
  Row (w1.setCell ⟨r,j,none⟩ (.slice (some ⟨gg,0,none⟩) (l.length+1) cap')) (ownAdd own gg t0) t0 e size (.slice (some ⟨gg,0,none⟩) (l.length+1) cap') (l++[x]) f ∧
  (∀ k,ownAdd own gg t0 k≠none→k < (w1.setCell ⟨r,j,none⟩ (.slice (some ⟨gg,0,none⟩) (l.length+1) cap')).heap.size):=by
 have hsz:wr.heap.size≤w1.heap.size:=Nat.le_trans hWs hgrow.size
 have hrlt:r < wr.heap.size:=(Array.getElem?_eq_some_iff.1 hroot).1
 have hgr:gg≠r:=by
  intro e
  rcases hat with h | h
  ·have:=hv0 gg h; rw [e,hrt] at this; exact ht0 (Option.some.inj this).symm
  ·omega
 have hnr:some r≠v0.ownBlock:=fun e=>by have:=hv0 r e.symm; rw [hrt] at this; exact ht0 (Option.some.inj this).symm
 have hgo:∀ t,own gg=some t→t=t0:=by
  intro t ht
  rcases hat with h | h
  ·have:=hv0 gg h; rw [ht] at this; exact Option.some.inj this
  ·have:=hold gg (by rw [ht]; simp); omega
 have hblk:∀ k,k < wr.heap.size→some k≠v0.ownBlock→w1.heap[k]?=wr.heap[k]?:=fun k hk hne=>by rw [hgrow.block k (by omega) hne,hWb k hk]
 refine ⟨⟨?_,?_,?_,?_,?_,?_,?_⟩,?_,?_,?_,?_⟩
 ·show w1.os=_; rw [hgrow.os,hWo]
 ·show w1.tape=_; rw [hgrow.tape,hWt]
 ·show w1.output=_; rw [hgrow.output,hWp]
 ·simpa using hsz
 ·intro k hk hn
  have hkr:k≠r:=fun e=>by rw [e,hrt] at hn; cases hn
  rw [heap_setCell_ne _ _ _ _ _ hkr]
  exact hblk k hk (fun e=>by have:=hv0 k e.symm; rw [hn] at this; cases this)
 ·intro k t hk
  unfold ownAdd
  split
  ·subst_vars; rw [hgo t hk]
  ·exact hk
 ·intro k hk
  unfold ownAdd at hk
  split at hk
  ·subst_vars
   rcases hat with h | h
   ·left; rw [hv0 _ h]; simp
   ·right; omega
  ·exact .inl hk
 ·intro b t hb hne hne1
  have hbr:b≠r:=fun e=>by rw [e,hrt] at hb; exact hne1 (Option.some.inj hb).symm
  rw [heap_setCell_ne _ _ _ _ _ hbr]
  exact hblk b (hold b (by rw [hb]; simp)) (fun e=>by have:=hv0 b e.symm; rw [hb] at this; exact hne (Option.some.inj this))
 ·exact heap_setCell_same w1 r j C ty _ (by rw [hblk r hrlt hnr]; exact hroot)
 ·obtain ⟨hl,ho⟩:=hown1
  refine ⟨⟨?_,?_⟩,?_⟩
  ·rw [List.flatMap_append,List.length_append] at *; simpa using hl
  ·rcases ho with ⟨h,_⟩ | ⟨b',c,d,e1,e2,e3,e4,e5,e6,e7⟩
   ·cases h
   ·simp only [Value.slice.injEq,Option.some.injEq,Addr.mk.injEq,and_true,true_and] at e1
    obtain ⟨rfl,rfl⟩:=e1
    refine .inr ⟨gg,cap',d,by simp,e2,?_,by simpa using e4,e5,e6,?_⟩
    ·rw [heap_setCell_ne _ _ _ _ _ hgr]; exact e3
    ·simpa using e7
  ·intro b hb
   cases hb
   simp [ownAdd]
 ·intro k hk
  unfold ownAdd at hk
  split at hk
  ·subst_vars; simpa using hlt
  ·have:=hold k hk; simp; omega
theorem setCells_root {b ty:Nat}:∀ (vs:List Value) (o:Nat) (w:World) (C:Array Value),w.heap[b]?=some (.cells C ty (0,0))→∃ C',(w.setCells b o vs).heap[b]?=some (.cells C' ty (0,0))∧C'.size=C.size
 | [],_,w,C,h=>⟨C,h,rfl⟩
 | v :: vs,o,w,C,h=>by
  have h1:=heap_setCell_same w b o C ty v h
  obtain ⟨C',h2,h3⟩:=setCells_root vs (o+1) _ _ h1
  exact ⟨C',h2,by rw [h3]; simp⟩
theorem setCells_other {b:Nat}:∀ (vs:List Value) (o:Nat) (w:World) (k:Nat),k≠b→(w.setCells b o vs).heap[k]?=w.heap[k]?
 | [],_,_,_,_=>rfl
 | _ :: vs,o,_,k,h=>(setCells_other vs (o+1) _ k h).trans (heap_setCell_ne _ _ _ _ _ h)
theorem setCells_size {b:Nat}:∀ (vs:List Value) (o:Nat) (w:World),(w.setCells b o vs).heap.size=w.heap.size
 | [],_,_=>rfl
 | _ :: vs,o,_=>(setCells_size vs (o+1) _).trans (by simp)
theorem setCells_tape {b:Nat}:∀ (vs:List Value) (o:Nat) (w:World),(w.setCells b o vs).tape=w.tape
 | [],_,_=>rfl
 | _ :: vs,o,_=>(setCells_tape vs (o+1) _).trans rfl
end Go.Proofs.Ytpbcplfpjcacfaa
namespace Go.Proofs.Ytpbcplfpjcacfaa
open Go.RowKit
set_option linter.unusedSimpArgs false
set_option maxRecDepth 100000
set_option maxHeartbeats 8000000
def setIx (a:Lab) (key v:Int):List Plc→List Plc
 | []=>[⟨a,key,v⟩]
 | p :: l=>if p.at_=a∧p.key=key then ⟨p.at_,p.key,v⟩ :: l else p :: setIx a key v l
def RS.setP (st:RS) (a:Lab) (key v:Int):RS:={ st with places:=setIx a key v st.places }
def knownB (l:List (Int × Int)) (key:Int):Bool:=l.any (fun o=>o.1 == key)
def RS.keepOld (st:RS) (n:Nat) (t:Tx) (key:Int):RS :=
 if knownB t.olds key then st else { st with txns:=st.txns.set n { t with olds:=t.olds++[(key,st.val t.who.lab key)] } }
def RS.writeT (st:RS) (n:Nat) (t:Tx) (key v:Int):RS:=(st.keepOld n t key).setP t.who.lab key v
def RS.uniq (st:RS):Prop:=∀ (m n:Nat) (t u:Tx),st.txns[m]?=some t→st.txns[n]?=some u→t.who=u.who→m=n
end Go.Proofs.Ytpbcplfpjcacfaa
namespace Go.Proofs.Ytpbcplfpjcacfaa
open Go.RowKit
set_option maxRecDepth 100000
set_option maxHeartbeats 8000000
def bitOf (x:Int):Nat→Int
 | 0=>bits BinOp.and IntKind.i64 x 1
 | 1=>bits BinOp.and IntKind.i64 (x / 2) 1
 | _=>bits BinOp.and IntKind.i64 (x / 4) 1
def okTo (b d:Int):Nat→Bool
 | 0=>true
 | k+1=>okTo b d k && !(bitOf d k == 1 && bitOf b k == 0)
def domB (a b c d:Int):Bool:=decide (c≤a) && okTo b d 3
def asksB (op:Int):Bool:=decide (op=2∨op=3∨op=4∨op=5)
def properB (x:Stp):Bool :=
 labB x.who.1 x.who.2.1 && decide (0≤x.who.2.2∧x.who.2.2≤3∧1≤x.op∧x.op≤8) &&
  (!asksB x.op || (labB x.at_.1 x.at_.2 && decide (0≤x.key∧x.key≤15) && (!decide (x.op=3) || decide (x.key≤x.to_∧x.to_≤15)) && (!decide (x.op=4) || decide (0≤x.value∧x.value≤999))))
def stepV (x:Stp):Value:=.agg #[.int .i64 x.who.1,.int .i64 x.who.2.1,.int .i64 x.who.2.2,.int .i64 x.op,.int .i64 x.at_.1,.int .i64 x.at_.2,.int .i64 x.key,.int .i64 x.to_,.int .i64 x.value]
end Go.Proofs.Ytpbcplfpjcacfaa
namespace Go.Proofs.Ytpbcplfpjcacfaa
open Go.RowKit
set_option linter.unusedSimpArgs false
set_option maxRecDepth 100000
set_option maxHeartbeats 8000000
theorem ans_stored {w:World} {g ty:Nat} {x0 x1 x2:Value} (a b c:Value) (h:w.heap[g]?=some (.cells #[x0,x1,x2] ty (0,0))) :
  (((w.setCell ⟨g,0,none⟩ a).setCell ⟨g,1,none⟩ b).setCell ⟨g,2,none⟩ c).heap[g]?=some (.cells #[a,b,c] ty (0,0)):=by
 have h1:=heap_setCell_same w g 0 _ _ a h
 have h2:=heap_setCell_same _ g 1 _ _ b h1
 have h3:=heap_setCell_same _ g 2 _ _ c h2
 simpa using h3
theorem ans_cells {w:World} {g ty:Nat} {x0 x1 x2:Value} (h:w.heap[g]?=some (.cells #[x0,x1,x2] ty (0,0))) :
  w.cell? ⟨g,0,none⟩=some x0∧w.cell? ⟨g,1,none⟩=some x1∧w.cell? ⟨g,2,none⟩=some x2∧w.frozen? ⟨g,0,none⟩=false∧w.frozen? ⟨g,1,none⟩=false∧w.frozen? ⟨g,2,none⟩=false:=by
 refine ⟨?_,?_,?_,frozen_of_row w g 0 _ _ h,frozen_of_row w g 1 _ _ h,frozen_of_row w g 2 _ _ h⟩
 ·rw [cell_of_row w g 0 _ _ _ h]; rfl
 ·rw [cell_of_row w g 1 _ _ _ h]; rfl
 ·rw [cell_of_row w g 2 _ _ _ h]; rfl
theorem size66:(Try.prog.info? 66).map (·.size)=some 3:=by kernel_rfl
theorem ret_ans {fn:Func} {p:Tmp} (hr:fn.results=#[.cell p 66]) {R:Ending→World→Prop} {a:Act} {w:World} {g:Nat} {c0 c1 c2:Value} (hp:a.tmps.getD p undef=.pointer (some ⟨g,0,none⟩))
  (hg:w.heap[g]?=some (.cells #[c0,c1,c2] 66 (0,0))) (hd:a.defers=[]) (h:R (.returned (.agg #[c0,c1,c2])) w):bodyPost Try.prog fn R .ret a w :=
 bodyPost_ret (v:=.agg #[c0,c1,c2]) (results_cell_row hr _ _ g _ _ _ _ hp hg Try.underlying66 rfl size66) hd h
theorem live_at {st:RS} {x:Wh} {n:Nat} {t:Tx} (hn:st.txns[n]?=some t) (ht:t.who=x) (hu:st.uniq):st.live x=(n:Int):=by
 have gen:∀ (l:List Tx) (k m:Nat),l[m]?=some t→(∀ j u,l[j]?=some u→u.who=x→j=m)→liveIx x l k=((k+m:Nat):Int):=by
  intro l
  induction l with
  | nil=>intro k m h; simp at h
  | cons a l ih =>
   intro k m hm hq
   rw [liveIx]
   by_cases ha:a.who=x
   ·have:=hq 0 a (by simp) ha
    subst this
    rw [if_pos ha]; simp
   ·rw [if_neg ha]
    match m,hm with
    | 0,hm=>simp at hm; subst hm; exact absurd ht ha
    | m+1,hm =>
     rw [ih (k+1) m (by simpa using hm) (fun j u hj hu'=>by have:=hq (j+1) u (by simpa using hj) hu'; omega)]
     congr 1; omega
 have:=gen st.txns 0 n hn (fun j u hj hw=>hu j n u t hj hn (hw.trans ht.symm))
 simpa [RS.live] using this
end Go.Proofs.Ytpbcplfpjcacfaa
namespace Go.Proofs.Ytpbcplfpjcacfaa
open Go.RowKit
set_option maxRecDepth 100000
set_option maxHeartbeats 8000000
def RS.leads (st:RS):Nat→Wh→Wh→Bool
 | 0,_,_=>false
 | n+1,x,y=>st.waitsFor x y || (List.range 4).any (fun k=>st.waitsFor x (x.1,x.2.1,(k:Int)) && RS.leads st n (x.1,x.2.1,(k:Int)) y)
def ledP (st:RS) (n:Nat) (x y:Wh) (k:Nat):Bool:=st.waitsFor x (x.1,x.2.1,(k:Int)) && RS.leads st n (x.1,x.2.1,(k:Int)) y
theorem leads_succ (st:RS) (n:Nat) (x y:Wh):st.leads (n+1) x y=(st.waitsFor x y || (List.range 4).any (ledP st n x y)):=rfl
end Go.Proofs.Ytpbcplfpjcacfaa
namespace Go.Proofs.Ytpbcplfpjcacfaa
open Go.RowKit
set_option linter.unusedSimpArgs false
set_option maxRecDepth 100000
set_option maxHeartbeats 8000000
def RS.takenTo (st:RS) (a:Lab) (n:Nat):Nat:=((List.range n).filter (fun k:Nat=>st.taken a (k:Int))).length
def Tx.wrote (st:RS) (t:Tx) (key:Int):Tx:=if knownB t.olds key then t else { t with olds:=t.olds++[(key,st.val t.who.lab key)] }
theorem wrote_who (st:RS) (t:Tx) (key:Int):(t.wrote st key).who=t.who:=by unfold Tx.wrote; split<;>rfl
theorem wrote_puts (st:RS) (t:Tx) (key:Int):(t.wrote st key).puts=t.puts:=by unfold Tx.wrote; split<;>rfl
theorem writeT_txns {st:RS} {n:Nat} {t:Tx} (hn:st.txns[n]?=some t) (key v:Int):(st.writeT n t key v).txns=st.txns.set n (t.wrote st key):=by
 show (st.keepOld n t key).txns=_
 unfold RS.keepOld Tx.wrote
 split
 ·obtain ⟨h,rfl⟩:=List.getElem?_eq_some_iff.1 hn
  simp
 ·rfl
theorem writeT_at {st:RS} {n:Nat} {t:Tx} (hn:st.txns[n]?=some t) (key v:Int):(st.writeT n t key v).txns[n]?=some (t.wrote st key):=by
 rw [writeT_txns hn,List.getElem?_set_self (List.getElem?_eq_some_iff.1 hn).1]
theorem uniq_set {l:List Tx} {n:Nat} {t u:Tx} (hn:l[n]?=some t) (hw:u.who=t.who) (h:∀ (m n:Nat) (t u:Tx),l[m]?=some t→l[n]?=some u→t.who=u.who→m=n) :
  ∀ (m k:Nat) (a b:Tx),(l.set n u)[m]?=some a→(l.set n u)[k]?=some b→a.who=b.who→m=k:=by
 have hlt:=(List.getElem?_eq_some_iff.1 hn).1
 have get:∀ (m:Nat) (a:Tx),(l.set n u)[m]?=some a→∃ a',l[m]?=some a'∧a'.who=a.who:=by
  intro m a ha
  by_cases hm:n=m
  ·subst hm
   rw [List.getElem?_set_self hlt] at ha
   refine ⟨t,hn,?_⟩
   rw [← Option.some.inj ha,hw]
  ·rw [List.getElem?_set_ne hm] at ha
   exact ⟨a,ha,rfl⟩
 intro m k a b ha hb he
 obtain ⟨a',h1,h2⟩:=get m a ha
 obtain ⟨b',h3,h4⟩:=get k b hb
 exact h m k a' b' h1 h3 (by rw [h2,h4,he])
def RS.putT (st:RS) (n:Nat) (t:Tx) (key v:Int):RS :=
 { st.writeT n t key v with txns:=(st.writeT n t key v).txns.set n { t.wrote st key with puts:=t.puts++[key] } }
def RS.sees (st:RS) (ow:Bool) (a:Lab) (k:Int):Int:=if ow then st.val a k else st.comm a k
def seePick (st:RS) (ow:Bool) (a:Lab) (lo i:Nat):Option (Int × Int):=if 0≤st.sees ow a ((lo+i:Nat):Int) then some (((lo+i:Nat):Int),st.sees ow a ((lo+i:Nat):Int)) else none
def RS.readTo (st:RS) (ow:Bool) (a:Lab) (lo j:Nat):List (Int × Int):=(List.range j).filterMap (seePick st ow a lo)
def cntIx (a:Lab) (l:List Tx):Nat:=(l.filter (fun t=>sameL t.who.1 t.who.2.1 a.1 a.2)).length
def zeroStp:Stp:=⟨(0,0,0),0,(0,0),0,0,0⟩
def newTx (x:Wh) (n:Int):Tx:=⟨x,n,[],[],zeroStp,false,⟨0,0,[]⟩⟩
def RS.beginT (st:RS) (x:Wh):RS:={ st with begun:=st.begun+1,txns:=st.txns++[newTx x (st.begun+1)] }
def backTo (a:Lab) (l:List (Int × Int)) (st:RS):RS:=l.foldl (fun s o=>s.setP a o.1 o.2) st
theorem backTo_same (a:Lab):∀ (l:List (Int × Int)) (st:RS),backTo a l st={ st with places:=(backTo a l st).places }
 | [],st=>rfl
 | o :: l,st=>by
  have:=backTo_same a l (st.setP a o.1 o.2)
  show backTo a l (st.setP a o.1 o.2)=_
  rw [this]; rfl
theorem backTo_snoc (a:Lab) (l:List (Int × Int)) (o:Int × Int) (st:RS):backTo a (l++[o]) st=(backTo a l st).setP a o.1 o.2:=by simp [backTo]
def offB (x:Wh) (c:Rc):Bool:=!sameW c.who.1 c.who.2.1 c.who.2.2 x.1 x.2.1 x.2.2
def RS.endT (st:RS) (x:Wh) (back:Bool) (why:Int) (n:Nat) (t:Tx):RS :=
 { (if back then backTo x.lab t.olds.reverse st else st) with txns:=st.txns.eraseIdx n,recs:=st.recs.filter (offB x),ended:=if 0 < why then st.ended++[(x,why)] else st.ended }
end Go.Proofs.Ytpbcplfpjcacfaa
namespace Go.Proofs.Ytpbcplfpjcacfaa
open Go.RowKit
set_option maxRecDepth 100000
set_option maxHeartbeats 8000000
def Stp.top (x:Stp):Nat:=if x.op=3 then x.to_.toNat else x.key.toNat
def RS.reads (st:RS) (x:Stp):List (Int × Int):=st.readTo (sameL x.who.1 x.who.2.1 x.at_.1 x.at_.2) x.at_ x.key.toNat (x.top+1 - x.key.toNat)
def RS.full (st:RS) (x:Stp):Bool:=!st.taken x.at_ x.key && decide (st.k≤st.takenTo x.at_ 16)
def RS.job (st:RS) (n:Nat) (t:Tx) (x:Stp):RS × Ans :=
 if x.op=5 then (st.writeT n t x.key (-1),⟨0,0,[]⟩)
 else if x.op=4 then (if st.full x then (st,⟨4,0,[]⟩) else (st.putT n t x.key x.value,⟨0,0,[]⟩))
 else (st,⟨0,0,st.reads x⟩)
structure Stp.Good (x:Stp):Prop where
 op:x.op=2∨x.op=3∨x.op=4∨x.op=5
 key:0≤x.key∧x.key≤15
 to_:x.op=3→x.key≤x.to_∧x.to_≤15
def isW (x:Wh) (e:Wh × Int):Bool:=sameW e.1.1 e.1.2.1 e.1.2.2 x.1 x.2.1 x.2.2
def RS.toldW (st:RS) (x:Wh):Int:=match st.ended.find? (isW x) with
 | some e=>e.2
 | none=>0
def RS.toldT (st:RS) (x:Wh):RS:={ st with ended:=st.ended.eraseP (isW x) }
def Lab.ok (l:Lab):Prop:=0≤l.1∧l.1≤3∧0≤l.2∧l.2≤7
def ownL (r:Rc):Bool:=sameL r.who.1 r.who.2.1 r.at_.1 r.at_.2
def aheadB (a b:Rc):Bool :=
 if 8*a.at_.1+a.at_.2=8*b.at_.1+b.at_.2 then (if ownL a=ownL b then decide (a.came < b.came) else ownL a)
 else decide (8*a.at_.1+a.at_.2 < 8*b.at_.1+b.at_.2)
end Go.Proofs.Ytpbcplfpjcacfaa
