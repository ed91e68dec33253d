import Derived.Test.YtpbcplfpjcacfaaRows
import Derived.WalkKit
import Derived.WalkSpells
import Derived.WalkLawsBesides
import Derived.BigQuiet
import Derived.Deep.QuietTactic
import Derived.Deep.MidRow
import Derived.Deep.RegionHeld3
import Derived.Deep.DrawnRows
namespace Go.Proofs.Ytpbcplfpjcacfaa
set_option maxRecDepth 100000
set_option maxHeartbeats 8000000
def tierZ:List Value:=(((List.replicate 16 ([Value.bool false]++[Value.int .i64 0])).flatten)++(List.replicate 4 ([Value.slice none 0 0]++((List.replicate 16 [Value.bool false]).flatten++((List.replicate 16 ([Value.bool false]++[Value.int .i64 0])).flatten)++(List.replicate 16 [Value.bool false]).flatten)++((([Value.int .i64 0]++[Value.int .i64 0])++[Value.int .i64 0])++[Value.int .i64 0]++([Value.int .i64 0]++[Value.int .i64 0])++[Value.int .i64 0]++[Value.int .i64 0]++[Value.int .i64 0])++[Value.bool false]++([Value.int .i64 0]++[Value.int .i64 0]++[Value.slice none 0 0])++[Value.int .i64 0])).flatten++[Value.slice none 0 0]++[Value.slice none 0 0])
def tiersZ:List Value:=(List.replicate 32 tierZ).flatten
def veq:Value→Value→Bool
 | .bool x,.bool y=>x == y
 | .int .i64 x,.int .i64 y=>x == y
 | .slice none n c,.slice none n' c'=>n == n' && c == c'
 | _,_=>false
theorem veq_sound:∀ a b:Value,veq a b=true→a=b:=by
 intro a b h
 unfold veq at h
 split at h<;>simp_all
def chk:List Value→List Value→Bool
 | [],[]=>true
 | a :: l,b :: m=>if veq a b then chk l m else false
 | _,_=>false
theorem chk_sound:∀ a b:List Value,chk a b=true→a=b
 | [],[],_=>rfl
 | a :: l,b :: m,h=>by
  unfold chk at h
  by_cases hv:veq a b=true
  ·rw [if_pos hv] at h
   rw [veq_sound a b hv,chk_sound l m h]
  ·rw [if_neg hv] at h; cases h
 | [],_ :: _,h=>by cases h
 | _ :: _,[],h=>by cases h
def cellsAt (P:Program) (t:TypeId):List Value:=match (P.info? t).bind (·.zero) with | some z=>z.cells.toList | none=>[]
theorem cells136_chk:chk (cellsAt Try.prog 138) ([.int .i64 0,.int .i64 0,.int .i64 0]++tiersZ)=true:=by kernel_rfl
theorem cells136_eq:cellsAt Try.prog 138=[.int .i64 0,.int .i64 0,.int .i64 0]++tiersZ:=chk_sound _ _ cells136_chk
def storeZ (k v c:Int):List Value:=[.int .i64 k,.int .i64 v,.int .i64 c]++tiersZ
theorem len_tierZ:tierZ.length=350:=by decide +kernel
theorem len_flat {x:List Value}:∀ n:Nat,(List.replicate n x).flatten.length=n*x.length:=by
 intro n; simp
theorem len_tiersZ:tiersZ.length=11200:=by
 unfold tiersZ; rw [len_flat,len_tierZ]
theorem len_storeZ (k v c:Int):(storeZ k v c).length=11203:=by
 simp [storeZ,len_tiersZ]
theorem info136:∃ i z,Try.prog.info? 138=some i∧i.zero=some z∧z.cells.toList=[.int .i64 0,.int .i64 0,.int .i64 0]++tiersZ:=by
 have h:=cells136_eq
 unfold cellsAt at h
 cases hi:Try.prog.info? 138 with
 | none=>rw [hi] at h; simp at h
 | some i =>
  cases hz:i.zero with
  | none=>rw [hi] at h; simp [hz] at h
  | some z=>rw [hi] at h; simp only [Option.bind_some,hz] at h; exact ⟨i,z,rfl,hz,h⟩
theorem info_of {t:TypeId} {n:Nat} (h:(Try.prog.info? t).map (·.size)=some n):∃ i,Try.prog.info? t=some i∧i.size=n:=by
 cases hi:Try.prog.info? t with
 | none=>rw [hi] at h; cases h
 | some i=>rw [hi] at h; exact ⟨i,rfl,by simpa using h⟩
theorem size23:(Try.prog.info? 23).map (·.size)=some 3:=by kernel_rfl
theorem size134:(Try.prog.info? 136).map (·.size)=some 11200:=by kernel_rfl
theorem built136 (k v c:Int):Try.prog.built 138 [(0,.agg #[.int .i64 k,.int .i64 v,.int .i64 c])]=some ⟨storeZ k v c⟩:=by
 obtain ⟨i,z,hi,hz,hc⟩:=info136
 have hs:z.cells.size=11203:=by rw [← Array.length_toList,hc]; simp [len_tiersZ]
 have hz':z.cells=⟨[.int .i64 0,.int .i64 0,.int .i64 0]++tiersZ⟩:=by rw [← hc]
 unfold Program.built
 rw [hi,Try.underlying138]
 simp only [hz]
 obtain ⟨i1,h1,s1⟩:=info_of size23
 obtain ⟨i2,h2,s2⟩:=info_of size134
 simp only [List.mapM_cons,List.mapM_nil,h1,h2,s1,s2,Option.map_some,Option.bind_eq_bind,Option.bind_some,Option.pure_def]
 rw [hz']
 have e3:(Value.agg #[.int .i64 k,.int .i64 v,.int .i64 c]).cells=#[.int .i64 k,.int .i64 v,.int .i64 c]:=rfl
 simp [Instr.fill,e3,len_tiersZ,storeZ,Array.zipIdx]
theorem flat_get (x:List Value):∀ (n p j:Nat),p < n→j < x.length→(List.replicate n x).flatten[p*x.length+j]?=x[j]?
 | 0,p,j,hp,_=>absurd hp (Nat.not_lt_zero p)
 | n+1,0,j,_,hj=>by
  rw [List.replicate_succ,List.flatten_cons,List.getElem?_append_left (by omega)]
  simp
 | n+1,p+1,j,hp,hj=>by
  rw [List.replicate_succ,List.flatten_cons,List.getElem?_append_right (by rw [Nat.add_mul]; omega)]
  rw [show (p+1)*x.length+j - x.length=p*x.length+j from by rw [Nat.add_mul]; omega]
  exact flat_get x n p j (by omega) hj
theorem storeZ_tier (k v c:Int) (p j:Nat) (hp:p < 32) (hj:j < 350):(storeZ k v c)[3+p*350+j]?=tierZ[j]?:=by
 unfold storeZ
 rw [List.getElem?_append_right (by simp; omega)]
 have:=flat_get tierZ 32 p j hp (by rw [len_tierZ]; exact hj)
 rw [len_tierZ] at this
 unfold tiersZ
 rw [← this]
 congr 1
 simp
 omega
end Go.Proofs.Ytpbcplfpjcacfaa
namespace Go.Proofs.Ytpbcplfpjcacfaa
open Go.RowKit
set_option maxRecDepth 100000
set_option maxHeartbeats 8000000
theorem bcell {W w1:World} (hb:Below W.heap.size W w1):(∀ b o,b < W.heap.size→w1.cell? ⟨b,o,none⟩=W.cell? ⟨b,o,none⟩)∧(∀ b o,b < W.heap.size→w1.frozen? ⟨b,o,none⟩=W.frozen? ⟨b,o,none⟩) :=
 ⟨fun b o h=>hb.cell (p:=⟨b,o,none⟩) h,fun b o h=>hb.frozen (p:=⟨b,o,none⟩) h⟩
theorem wpList_build_to {P:Program} {ops:Array Oper} {rest:List Oper} {o:Oper} {a:Act} {w:World} {Q:Exit→Act→World→Prop} (hg:o.guard=none) (t:TypeId) (parts:Array (Nat × Operand)) (ho:o.op=.build t parts)
  (l:List (Nat × Value)) (hl:(parts.map fun (i,x)=>(i,a.eval x)).toList=l) (cells:Array Value) (hc:P.built t l=some cells)
  (h:wpList P ops Q rest (a.put o.dst (.agg cells)) w):wpList P ops Q (o :: rest) a w :=
 wpList_build hg t parts ho (by rw [hl,hc]; rfl) (by rw [hl,hc]; exact h)
theorem ret_bool {a b:Bool} (h:a=b):Ending.returned (.bool a)=.returned (.bool b):=by rw [h]
def labB (l c:Int):Bool:=decide (0≤l∧l≤3∧0≤c∧c≤7)
theorem labB_t {l c:Int} (h:labB l c=true):0≤l∧l≤3∧0≤c∧c≤7:=of_decide_eq_true h
theorem labB_mk {l c:Int} (h:0≤l∧l≤3∧0≤c∧c≤7):labB l c=true:=decide_eq_true h
theorem labB_not {l c:Int} (h:¬ (0≤l∧l≤3∧0≤c∧c≤7)):labB l c=false:=decide_eq_false h
theorem labB_last {l c:Int} (a:0≤l) (b:l≤3) (d:0≤c):decide (c≤7)=labB l c:=by
 unfold labB; simp [a,b,d]
def mayB (k v c:Int):Bool:=decide (1≤k∧k≤16∧1≤v∧v≤4∧1≤c∧c≤32)
theorem mayB_t {k v c:Int} (h:mayB k v c=true):1≤k∧k≤16∧1≤v∧v≤4∧1≤c∧c≤32:=of_decide_eq_true h
theorem mayB_f {k v c:Int} (h:mayB k v c=false):¬ (1≤k∧k≤16∧1≤v∧v≤4∧1≤c∧c≤32):=of_decide_eq_false h
theorem valid_any (l c:Int) (w:World) :
  Calls Try.prog 68 #[.agg #[.int .i64 l,.int .i64 c]] w fun e w'=>e=.returned (.bool (labB l c))∧Below w.heap.size w w':=by
 go_enter Try.func68,Try.ntmps68
 go_wp2
 all_goals go_ret
 all_goals refine ⟨ret_bool ?_,(Below.refl _ _).alloc (Nat.le_refl _) _⟩
 all_goals first | exact labB_last (by omega) (by omega) (by omega) | (symm; apply labB_not; omega)
def sameL (a b c d:Int):Bool:=decide (a=c∧b=d)
theorem place_yes (l c:Int) (w:World) (h:labB l c=true) :
  Calls Try.prog 60 #[.agg #[.int .i64 l,.int .i64 c]] w fun e w'=>e=.returned (.tuple #[.int .i64 (l*8+c),.bool true])∧Below w.heap.size w w':=by
 obtain ⟨h1,h2,h3,h4⟩:=labB_t h
 go_enter Try.func60,Try.ntmps60
 go_wp2_with fail
 refine (valid_any _ _ _).mono ?_
 rintro e w1 ⟨rfl,hb⟩
 rw [h]
 obtain ⟨hc,hf⟩:=bcell hb
 have hz:w.heap.size < w1.heap.size:=by have:=hb.size; simp at this; omega
 go_wp2
 go_ret2
 refine ⟨rfl,?_⟩
 exact ((Below.refl _ _).alloc (Nat.le_refl _) _).trans (hb.mono (by simp))
theorem place_no (l c:Int) (w:World) (h:labB l c=false) :
  Calls Try.prog 60 #[.agg #[.int .i64 l,.int .i64 c]] w fun e w'=>e=.returned (.tuple #[.int .i64 0,.bool false])∧Below w.heap.size w w':=by
 go_enter Try.func60,Try.ntmps60
 go_wp2_with fail
 refine (valid_any _ _ _).mono ?_
 rintro e w1 ⟨rfl,hb⟩
 rw [h]
 go_wp2
 go_ret2
 refine ⟨rfl,?_⟩
 exact ((Below.refl _ _).alloc (Nat.le_refl _) _).trans (hb.mono (by simp))
theorem new_yes (k v c:Int) (w:World) (h:mayB k v c=true) :
  Calls Try.prog 41 #[.agg #[.int .i64 k,.int .i64 v,.int .i64 c]] w fun e w'=>e=.returned (.tuple #[.pointer (some ⟨w.heap.size+1,0,none⟩),.int .i64 0])∧(w.alloc (.cells #[.int .i64 k,.int .i64 v,.int .i64 c] 23)).alloc (.cells ⟨storeZ k v c⟩ 138)=w':=by
 obtain ⟨h1,h2,h3,h4,h5,h6⟩:=mayB_t h
 go_enter Try.func41,Try.ntmps41
 go_wp2_with (refine wpList_build_to rfl 138 _ rfl [(0,.agg #[.int .i64 k,.int .i64 v,.int .i64 c])] ?hl _ (built136 k v c) ?_)
 go_ret2
 exact ⟨rfl,rfl⟩
theorem new_no (k v c:Int) (w:World) (h:mayB k v c=false) :
  Calls Try.prog 41 #[.agg #[.int .i64 k,.int .i64 v,.int .i64 c]] w fun e w'=>e=.returned (.tuple #[.pointer none,.int .i64 1])∧Below w.heap.size w w':=by
 have hn:=mayB_f h
 by_cases h1:1≤k∧k≤16
 ·by_cases h2:1≤v∧v≤4
  ·have h3:c < 1∨32 < c:=by omega
   obtain ⟨h1,h1'⟩:=h1
   obtain ⟨h2,h2'⟩:=h2
   rcases h3 with h3 | h3 <;>
   ·go_enter Try.func41,Try.ntmps41
    go_wp2
    go_ret2
    exact ⟨rfl,(Below.refl _ _).alloc (Nat.le_refl _) _⟩
  ·have h3:v < 1∨4 < v:=by omega
   obtain ⟨h1,h1'⟩:=h1
   rcases h3 with h3 | h3 <;>
   ·go_enter Try.func41,Try.ntmps41
    go_wp2
    go_ret2
    exact ⟨rfl,(Below.refl _ _).alloc (Nat.le_refl _) _⟩
 ·have h3:k < 1∨16 < k:=by omega
  rcases h3 with h3 | h3 <;>
  ·go_enter Try.func41,Try.ntmps41
   go_wp2
   go_ret2
   exact ⟨rfl,(Below.refl _ _).alloc (Nat.le_refl _) _⟩
def slotV (T:Nat→Option Int) (k:Nat):List Value:=[.bool (T k).isSome,.int .i64 ((T k).getD 0)]
def tabV (T:Nat→Option Int):List Value:=(List.range 16).flatMap (slotV T)
def pickV (T:Nat→Option Int) (lo hi:Int) (k:Nat):Option (Int × Int) :=
 if (T k).isSome=true∧lo≤k∧(k:Int)≤hi then some ((k:Int),(T k).getD 0) else none
def listTo (T:Nat→Option Int) (lo hi:Int) (n:Nat):List (Int × Int):=(List.range n).filterMap (pickV T lo hi)
def itemV (x:Int × Int):List Value:=[.int .i64 x.1,.int .i64 x.2]
def itemsV (l:List (Int × Int)):List Value:=l.flatMap itemV
theorem len_itemsV (l:List (Int × Int)):(itemsV l).length=l.length*2:=by
 induction l with
 | nil=>rfl
 | cons a l ih=>simp [itemsV,itemV] at *; omega
theorem itemsV_snoc (l:List (Int × Int)) (x:Int × Int):itemsV (l++[x])=itemsV l++itemV x:=by simp [itemsV]
theorem listTo_len (T:Nat→Option Int) (lo hi:Int) (n:Nat):(listTo T lo hi n).length≤n:=by
 have:=List.length_filterMap_le (pickV T lo hi) (List.range n)
 simpa [listTo] using this
theorem listTo_hit (T:Nat→Option Int) (lo hi:Int) (n:Nat) (h:(T n).isSome=true) (h1:lo≤n) (h2:(n:Int)≤hi) :
  listTo T lo hi (n+1)=listTo T lo hi n++[((n:Int),(T n).getD 0)]:=by
 simp [listTo,List.range_succ,List.filterMap_append,pickV,h,h1,h2]
theorem listTo_miss (T:Nat→Option Int) (lo hi:Int) (n:Nat) (h:¬ ((T n).isSome=true∧lo≤n∧(n:Int)≤hi)) :
  listTo T lo hi (n+1)=listTo T lo hi n:=by
 simp only [listTo,List.range_succ,List.filterMap_append,List.filterMap_cons,pickV,if_neg h,List.filterMap_nil,List.append_nil]
theorem len_flat2 (T:Nat→Option Int) (n:Nat):((List.range n).flatMap (slotV T)).length=2*n:=by
 induction n with
 | zero=>rfl
 | succ n ih=>rw [List.range_succ,List.flatMap_append,List.length_append,ih]; simp [slotV]; omega
theorem len_tabV (T:Nat→Option Int):(tabV T).length=32:=len_flat2 T 16
theorem flat2_get (T:Nat→Option Int):∀ (n k:Nat),k < n→((List.range n).flatMap (slotV T))[2*k]?=some (.bool (T k).isSome)∧((List.range n).flatMap (slotV T))[2*k+1]?=some (.int .i64 ((T k).getD 0))
 | 0,_,h=>absurd h (Nat.not_lt_zero _)
 | n+1,k,h=>by
  rw [List.range_succ,List.flatMap_append]
  have hl:=len_flat2 T n
  by_cases hk:k < n
  ·obtain ⟨a,b⟩:=flat2_get T n k hk
   rw [List.getElem?_append_left (by omega),List.getElem?_append_left (by omega)]
   exact ⟨a,b⟩
  ·have e:k=n:=by omega
   subst e
   rw [List.getElem?_append_right (by omega),List.getElem?_append_right (by omega),hl]
   simp [slotV]
theorem tabV_get (T:Nat→Option Int) (k:Nat) (h:k < 16):(tabV T)[2*k]?=some (.bool (T k).isSome)∧(tabV T)[2*k+1]?=some (.int .i64 ((T k).getD 0)):=flat2_get T 16 k h
theorem tabV_two (T:Nat→Option Int) (k:Nat) (h:k < 16):List.take 2 (List.drop (k*2) (tabV T))=[.bool (T k).isSome,.int .i64 ((T k).getD 0)]:=by
 obtain ⟨a,b⟩:=tabV_get T k h
 apply List.ext_getElem?
 intro i
 rw [List.getElem?_take]
 match i with
 | 0=>rw [List.getElem?_drop,show k*2+0=2*k by omega,a]; rfl
 | 1=>rw [List.getElem?_drop,show k*2+1=2*k+1 by omega,b]; rfl
 | i+2=>simp; omega
theorem size119:(Try.prog.info? 119).map (·.size)=some 2:=by kernel_rfl
theorem size120:(Try.prog.info? 120).map (·.size)=some 32:=by kernel_rfl
theorem index_tab (T:Nat→Option Int) (k:Nat) (h:k < 16) (w:World) :
  (Instr.index 120 (.agg (tabV T).toArray) (.int .i64 k)).run Try.prog w=.ok (.agg #[.bool (T k).isSome,.int .i64 ((T k).getD 0)]) w:=by
 obtain ⟨i,hi,hs⟩:=info_of size119
 have ha:(isAgg 119).run Try.prog w=.ok true w:=by
  unfold isAgg; rw [Sem.run_bind,run_underlying Try.underlying119 w]; simp
 simp [Instr.index,asIntOf,run_underlying Try.underlying120,sizeOf,typeInfo,hi,hs,part]
 rw [if_pos h,tabV_two T k h]
theorem info_all {t:TypeId} {z:Value} {n b:Nat} (h:(Try.prog.info? t).map (fun i=>(i.zero,i.size,i.bytes))=some (some z,n,b)):∃ i,Try.prog.info? t=some i∧i.zero=some z∧i.size=n∧i.bytes=b:=by
 cases hi:Try.prog.info? t with
 | none=>rw [hi] at h; cases h
 | some i=>rw [hi] at h; simp at h; exact ⟨i,rfl,h.1,h.2.1,h.2.2⟩
theorem info94:(Try.prog.info? 94).map (fun i=>(i.zero,i.size,i.bytes))=some (some (.agg #[.int .i64 0,.int .i64 0]),2,16):=by kernel_rfl
theorem two_new (w:World) (x y:Value) (c n:Nat) (hn:n=w.heap.size):∀ j u,[x,y][j]?=some u→(w.alloc (.cells #[x,y] c)).cell? ((⟨n,0,none⟩:Addr).add j)=some u:=by
 subst hn
 intro j u hj
 match j,hj with
 | 0,hj=>simp at hj; subst hj; simp [Addr.add]
 | 1,hj=>simp at hj; subst hj; simp [Addr.add]
 | j+2,hj=>simp at hj
theorem list_any (b off:Nat) (T:Nat→Option Int) (lo hi:Int) (w:World) (hr:w.rangeAt b off (tabV T)) :
  Calls Try.prog 61 #[.pointer (some ⟨b,off,none⟩),.int .i64 lo,.int .i64 hi] w fun e w' =>
   ∃ v,e=.returned v∧w'.ownsRow w.heap.size 94 2 v (listTo T lo hi 16).length (itemsV (listTo T lo hi 16))∧Below w.heap.size w w':=by
 obtain ⟨i0,hi0,hz0,hs0,hb0⟩:=info_all info94
 go_enter Try.func61,Try.ntmps61
 go_wp2_with (refine wpList_load_mid rfl 120 _ rfl b off rfl (tabV T) _ hr Try.underlying120 rfl ?hi ?_)
 case hi=>rw [len_tabV]; exact size120
 go_loopw [7,14] (fun v i wr=>∃ k:Nat,k≤16∧i=.int .i64 k∧wr.ownsRow w.heap.size 94 2 v (listTo T lo hi k).length (itemsV (listTo T lo hi k))∧Below w.heap.size w wr) (fun _ i _=>16 - (intOf i).toNat)
 case atStart=>exact ⟨0,Nat.zero_le _,rfl,World.ownsRow_nil _ _ _ _,Below.refl _ _⟩
 case round =>
  obtain ⟨k,hk,rfl,hown,hnx⟩:=hrel
  have hnz:=hnx.size
  by_cases hlt:k < 16
  ·have hix:=index_tab T k hlt
   by_cases hit:(T k).isSome=true∧lo≤k∧(k:Int)≤hi
   ·have hstep:=listTo_hit T lo hi k hit.1 hit.2.1 hit.2.2
    have Hs:Hid (listTo T lo hi (k+1)=listTo T lo hi k++[((k:Int),(T k).getD 0)]):=hstep
    clear hstep
    obtain ⟨h1,h2,h3⟩:=hit
    go_wp2_with (at_builtin; refine wpList_append_own _ rfl _ _ 44 rfl w.heap.size 94 i0 (.agg #[.int .i64 0,.int .i64 0]) 2 16 Try.underlying44 hi0 hz0 hs0 hb0 rfl (by decide) _ _ _ rfl ((hown.alloc _).alloc _) ⟨wr.heap.size+1,0,none⟩ 1 1 [.int .i64 k,.int .i64 ((T k).getD 0)] rfl rfl ?c1 ?c2 ?c3 ?c4 ?c5 ?_)
    case c1=>exact two_new (wr.alloc _) _ _ 94 _ (by simp)
    case c2=>intro u hu; simp at hu; rcases hu with rfl | rfl<;>rfl
    case c3=>have:=listTo_len T lo hi k; unfold maxLen; omega
    case c4=>have:=listTo_len T lo hi k; omega
    case c5=>simp; omega
    intro v' w1 hown' hgrow _
    have hb1:Below w.heap.size w w1:=((hnx.alloc hnz _).alloc (by simp; omega) _).grown hgrow (by simp; omega) (fun k hk=>(hown.lt k hk).1)
    rw [show (listTo T lo hi k).length+1=(listTo T lo hi (k+1)).length by rw [Hs.out]; simp,
     show itemsV (listTo T lo hi k)++[.int .i64 k,.int .i64 ((T k).getD 0)]=itemsV (listTo T lo hi (k+1)) by rw [Hs.out,itemsV_snoc]; rfl] at hown'
    clear hgrow hown hix
    go_wp2
    go_roundw
    case rel=>exact ⟨k+1,by omega,by go_num,hown',hb1⟩
    case measure=>simp [intOf]; omega
   ·have Hs:Hid (listTo T lo hi (k+1)=listTo T lo hi k):=listTo_miss T lo hi k hit
    by_cases h1:(T k).isSome=true
    ·by_cases h2:lo≤k
     ·have h3:¬ (k:Int)≤hi:=fun h=>hit ⟨h1,h2,h⟩
      clear hit
      go_wp2
      go_roundw
      case rel=>exact ⟨k+1,by omega,by go_num,by rw [Hs.out]; exact hown.alloc _,hnx.alloc hnz _⟩
      case measure=>simp [intOf]; omega
     ·clear hit
      go_wp2
      go_roundw
      case rel=>exact ⟨k+1,by omega,by go_num,by rw [Hs.out]; exact hown.alloc _,hnx.alloc hnz _⟩
      case measure=>simp [intOf]; omega
    ·have h1':(T k).isSome=false:=by simpa using h1
     clear hit h1
     go_wp2
     go_roundw
     case rel=>exact ⟨k+1,by omega,by go_num,by rw [Hs.out]; exact hown.alloc _,hnx.alloc hnz _⟩
     case measure=>simp [intOf]; omega
  ·have e:k=16:=by omega
   subst e
   go_wp2
   go_ret
   exact ⟨_,rfl,hown,hnx⟩
def isItems (w:World) (v:Value) (l:List (Int × Int)):Prop :=
 (v=.slice none 0 0∧l=[])∨∃ b o cap,v=.slice (some ⟨b,o,none⟩) l.length cap∧w.rangeAt b o (itemsV l)∧l.length≤maxLen
theorem itemsV_get:∀ (l:List (Int × Int)) (k:Nat) (x:Int × Int),l[k]?=some x→(itemsV l)[2*k]?=some (.int .i64 x.1)∧(itemsV l)[2*k+1]?=some (.int .i64 x.2)
 | [],k,x,h=>by simp at h
 | y :: l,0,x,h=>by
  simp at h; subst h
  simp [itemsV,itemV]
 | y :: l,k+1,x,h=>by
  have h':l[k]?=some x:=by simpa using h
  obtain ⟨a,b⟩:=itemsV_get l k x h'
  have e:itemsV (y :: l)=itemV y++itemsV l:=by simp [itemsV]
  rw [e,List.getElem?_append_right (by simp [itemV]; omega),List.getElem?_append_right (by simp [itemV]; omega)]
  simp only [itemV,List.length_cons,List.length_nil]
  rw [show 2*(k+1) - (0+1+1)=2*k by omega,show 2*(k+1)+1 - (0+1+1)=2*k+1 by omega]
  exact ⟨a,b⟩
theorem ownsRow_items {w:World} {base e:Nat} {v:Value} {l:List (Int × Int)} (h:w.ownsRow base e 2 v l.length (itemsV l)):isItems w v l:=by
 rcases h.2 with ⟨rfl,hn⟩ | ⟨g,cap,cur,rfl,_,hg,hnc,hm,_,ht⟩
 ·left; exact ⟨rfl,List.eq_nil_of_length_eq_zero hn⟩
 ·right
  refine ⟨g,0,cap,rfl,?_,by omega⟩
  intro j u hj
  have hj':j < l.length*2:=by
   have:=(List.getElem?_eq_some_iff.1 hj).1
   rw [len_itemsV] at this; omega
  rw [cell_of_row w g (0+j) cur e (0,0) hg]
  rw [← ht,List.getElem?_take_of_lt hj'] at hj
  simpa using hj
theorem range_item {w:World} {b o:Nat} {l:List (Int × Int)} (h:w.rangeAt b o (itemsV l)) (k:Nat) (x:Int × Int) (hx:l[k]?=some x) :
  w.cell? ⟨b,o+k*2,none⟩=some (.int .i64 x.1)∧w.cell? ⟨b,o+k*2+1,none⟩=some (.int .i64 x.2):=by
 obtain ⟨p,q⟩:=itemsV_get l k x hx
 have a:=h _ _ p
 have c:=h _ _ q
 rw [show o+2*k=o+k*2 by omega] at a
 rw [show o+(2*k+1)=o+k*2+1 by omega] at c
 exact ⟨a,c⟩
theorem take_same {l1 l2:List (Int × Int)} {k:Nat} {x:Int × Int} (h1:l1[k]?=some x) (h2:l2[k]?=some x) (ht:l1.take k=l2.take k):l1.take (k+1)=l2.take (k+1):=by
 rw [List.take_add_one,List.take_add_one,ht,h1,h2]
theorem at_differs {l1 l2:List (Int × Int)} {k:Nat} {x y:Int × Int} (h1:l1[k]?=some x) (h2:l2[k]?=some y) (h:x≠y):decide (l1=l2)=false:=by
 apply decide_eq_false
 intro e
 rw [e,h2] at h1
 exact h (Option.some.inj h1).symm
theorem below_drewN2 {w:World} (m n:Nat):Below w.heap.size w ((w.drewN m).drewN n):=⟨rfl,rfl,rfl,Nat.le_refl _,fun _ _=>rfl⟩
theorem below_drewN {w:World} (n:Nat):Below w.heap.size w (w.drewN n):=⟨rfl,rfl,rfl,Nat.le_refl _,fun _ _=>rfl⟩
abbrev Lab:=Int × Int
abbrev Wh:=Int × Int × Int
def Wh.lab (x:Wh):Lab:=(x.1,x.2.1)
structure Stp where
 who:Wh
 op:Int
 at_:Lab
 key:Int
 to_:Int
 value:Int
structure Ans where
 code:Int
 why:Int
 items:List (Int × Int)
structure Plc where
 at_:Lab
 key:Int
 value:Int
structure Rc where
 who:Wh
 at_:Lab
 lo:Int
 hi:Int
 write:Bool
 waits:Bool
 came:Int
structure Tx where
 who:Wh
 nth:Int
 olds:List (Int × Int)
 puts:List Int
 step:Stp
 ready:Bool
 told:Ans
structure RS where
 k:Int
 v:Int
 c:Int
 places:List Plc
 txns:List Tx
 recs:List Rc
 ended:List (Wh × Int)
 begun:Int
 clock:Int
def placeC (p:Plc):List Value:=[.int .i64 p.at_.1,.int .i64 p.at_.2,.int .i64 p.key,.int .i64 p.value]
def recC (r:Rc):List Value:=[.int .i64 r.who.1,.int .i64 r.who.2.1,.int .i64 r.who.2.2,.int .i64 r.at_.1,.int .i64 r.at_.2,.int .i64 r.lo,.int .i64 r.hi,.bool r.write,.bool r.waits,.int .i64 r.came]
def endC (x:Wh × Int):List Value:=[.int .i64 x.1.1,.int .i64 x.1.2.1,.int .i64 x.1.2.2,.int .i64 x.2]
def stepC (x:Stp):List Value:=[.int .i64 x.who.1,.int .i64 x.who.2.1,.int .i64 x.who.2.2,.int .i64 x.op,.int .i64 x.at_.1,.int .i64 x.at_.2,.int .i64 x.key,.int .i64 x.to_,.int .i64 x.value]
abbrev Gh:=Wh→Value × Value × Value
def txnC (g:Gh) (t:Tx):List Value :=
 [.int .i64 t.who.1,.int .i64 t.who.2.1,.int .i64 t.who.2.2,.int .i64 t.nth,(g t.who).1,(g t.who).2.1]++stepC t.step++[.bool t.ready,.int .i64 t.told.code,.int .i64 t.told.why,(g t.who).2.2]
abbrev Tag:=Nat × Wh
abbrev Own:=Nat→Option Tag
def Row {α:Type} (w:World) (own:Own) (tag:Tag) (e size:Nat) (v:Value) (l:List α) (f:α→List Value):Prop :=
 w.ownsRow 0 e size v l.length (l.flatMap f)∧∀ b,v.ownBlock=some b→own b=some tag
structure Mem (w:World) (r:Nat) (st:RS) (own:Own) (g:Gh) (vp vt vr ve:Value):Prop where
 root:w.heap[r]?=some (.cells #[.int .i64 st.k,.int .i64 st.v,.int .i64 st.c,vp,vt,vr,ve,.int .i64 st.begun,.int .i64 st.clock] 106 (0,0))
 rootTag:own r=some (1,0,0,0)
 places:Row w own (2,0,0,0) 183 4 vp st.places placeC
 txns:Row w own (3,0,0,0) 162 19 vt st.txns (txnC g)
 recs:Row w own (4,0,0,0) 108 10 vr st.recs recC
 ended:Row w own (5,0,0,0) 173 4 ve st.ended endC
 olds:∀ t∈st.txns,Row w own (6,t.who) 171 2 (g t.who).1 t.olds itemV
 puts:∀ t∈st.txns,Row w own (7,t.who) 3 1 (g t.who).2.1 t.puts (fun n=>[.int .i64 n])
 told:∀ t∈st.txns,t.ready=true→Row w own (8,t.who) 94 2 (g t.who).2.2 t.told.items itemV
 toldV:∀ t∈st.txns,(g t.who).2.2.oneCell'=true
 old:∀ k,own k≠none→k < w.heap.size
def Rep (w:World) (r:Nat) (st:RS) (own:Own):Prop:=∃ g vp vt vr ve,Mem w r st own g vp vt vr ve
theorem flatMap_len {α:Type} (f:α→List Value) (size:Nat):∀ l:List α,(∀ x,(f x).length=size)→(l.flatMap f).length=l.length*size
 | [],_=>by simp
 | a :: l,h=>by rw [List.flatMap_cons,List.length_append,flatMap_len f size l h,h a,List.length_cons,Nat.add_mul]; omega
theorem flatMap_get {α:Type} (f:α→List Value) (size:Nat) (h:∀ x,(f x).length=size):∀ (l:List α) (k j:Nat) (x:α),l[k]?=some x→j < size→(l.flatMap f)[k*size+j]?=(f x)[j]?
 | [],k,j,x,hx,_=>by simp at hx
 | a :: l,0,j,x,hx,hj=>by
  simp at hx; subst hx
  rw [List.flatMap_cons,List.getElem?_append_left (by rw [h]; omega)]; simp
 | a :: l,k+1,j,x,hx,hj=>by
  have hx':l[k]?=some x:=by simpa using hx
  rw [List.flatMap_cons,List.getElem?_append_right (by rw [h,Nat.add_mul]; omega),h,show (k+1)*size+j - size=k*size+j by rw [Nat.add_mul]; omega]
  exact flatMap_get f size h l k j x hx' hj
theorem Row.at {α:Type} {w:World} {own:Own} {tag:Tag} {e size:Nat} {v:Value} {l:List α} {f:α→List Value} (h:Row w own tag e size v l f) (hf:∀ x,(f x).length=size) :
  (l=[]∧v=.slice none 0 0)∨∃ b cap,v=.slice (some ⟨b,0,none⟩) l.length cap∧own b=some tag∧b < w.heap.size∧l.length≤maxLen∧(∀ k x,l[k]?=some x→w.rangeAt b (k*size) (f x))∧∀ j,w.frozen? ⟨b,j,none⟩=false:=by
 obtain ⟨⟨hlen,hv⟩,ht⟩:=h
 rcases hv with ⟨rfl,hn⟩ | ⟨b,cap,cur,rfl,_,hg,hnc,hm,hcs,htk⟩
 ·left; exact ⟨List.eq_nil_of_length_eq_zero hn,rfl⟩
 ·right
  refine ⟨b,cap,rfl,ht b rfl,(Array.getElem?_eq_some_iff.1 hg).1,by omega,?_,fun j=>frozen_of_row w b j cur e hg⟩
  intro k x hx j u hj
  have hj':j < size:=by rw [← hf x]; exact (List.getElem?_eq_some_iff.1 hj).1
  have hk:k < l.length:=(List.getElem?_eq_some_iff.1 hx).1
  have hkj:k*size+j < l.length*size:=by
   have:(k+1)*size≤l.length*size:=Nat.mul_le_mul_right _ hk
   rw [Nat.add_mul] at this; omega
  rw [cell_of_row w b _ cur e (0,0) hg]
  have:=flatMap_get f size hf l k j x hx hj'
  rw [← htk,List.getElem?_take_of_lt hkj,hj] at this
  simpa using this
theorem Row.form {α:Type} {w:World} {own:Own} {tag:Tag} {e size:Nat} {v:Value} {l:List α} {f:α→List Value} (h:Row w own tag e size v l f) (hf:∀ x,(f x).length=size) :
  ∃ ao cap,v=.slice ao l.length cap∧l.length≤maxLen∧∀ k x,l[k]?=some x→∃ b,ao=some ⟨b,0,none⟩∧own b=some tag∧b < w.heap.size∧w.rangeAt b (k*size) (f x)∧∀ j,w.frozen? ⟨b,j,none⟩=false:=by
 rcases h.at hf with ⟨rfl,rfl⟩ | ⟨b,cap,rfl,ht,hb,hm,hc,hz⟩
 ·exact ⟨_,_,rfl,Nat.zero_le _,fun k x hx=>by simp at hx⟩
 ·exact ⟨_,_,rfl,hm,fun k x hx=>⟨b,rfl,ht,hb,hc k x hx,hz⟩⟩
theorem rangeAt_below {w w':World} {B b o:Nat} {cs:List Value} (h:w.rangeAt b o cs) (hb:Below B w w') (hlt:b < B):w'.rangeAt b o cs:=fun j u hj=>(hb.cell (p:=⟨b,o+j,none⟩) hlt).trans (h j u hj)
theorem len_itemC (x:Int × Int):(itemV x).length=2:=rfl
structure Kin (W:World) where
 w:World
 h:Below W.heap.size W w
theorem kin_some (W:World):Nonempty (Kin W):=⟨⟨W,Below.refl _ _⟩⟩
theorem kin_cell {W:World} {p:Addr} {v:Value} (h:W.cell? p=some v):∀ x:Kin W,x.w.cell? p=some v:=fun x=>cell_later x.h h
theorem wp_region_kin {P:Program} {id:Nat} {Q:Exit→Act→World→Prop} {a:Act} {W:World} {l:List Oper} (hm:P.follows .mixedOrders=true) (hB:Region.lexB .any l.toArray=true)
  (h:wpQuiet P l.toArray (fun w'=>∃ x:Kin W,w'=x.w) (fun a'=>∀ w',(∃ x:Kin W,w'=x.w)→Q .normal a' w') l a):(Code.region id l.toArray true).wp P Q a W :=
 wp_region_quiet (C:=fun w'=>∃ x:Kin W,w'=x.w) hm hB ⟨⟨W.drew,(Below.refl _ _).drew⟩,rfl⟩ (by simpa using h)
theorem Calls.kin {P:Program} {f:FuncId} {args:Array Value} {W:World} {x:Kin W} {v:Value}
  (h:Calls P f args x.w fun e w'=>e=.returned v∧Below x.w.heap.size x.w w'):Calls P f args x.w fun e w''=>e=.returned v∧∃ y:Kin W,w''=y.w :=
 h.mono fun _ w' ⟨he,hb⟩=>⟨he,⟨w',x.h.trans (hb.mono x.h.size)⟩,rfl⟩
theorem ownsRow_lower {w:World} {B B' e size:Nat} {v:Value} {n:Nat} {xs:List Value} (h:w.ownsRow B e size v n xs) (hB:B'≤B):w.ownsRow B' e size v n xs:=by
 obtain ⟨hl,ho⟩:=h
 refine ⟨hl,?_⟩
 rcases ho with h | ⟨b,c,d,e1,e2,e3⟩
 ·exact .inl h
 ·exact .inr ⟨b,c,d,e1,by omega,e3⟩
theorem ownsRow_below {w w':World} {B e size:Nat} {v:Value} {n:Nat} {xs:List Value} (h:w.ownsRow B e size v n xs) (hb:Below w.heap.size w w'):w'.ownsRow B e size v n xs :=
 h.kept (row:=none) ⟨hb.os,hb.tape,hb.output,hb.size,fun k hk _=>hb.block k hk⟩ (by cases hv:v.ownBlock<;>simp)
end Go.Proofs.Ytpbcplfpjcacfaa
namespace Go.Proofs.Ytpbcplfpjcacfaa
open Go.RowKit
attribute [local go_sem ↓] Go.wp_at_zero Go.wp_at_succ
set_option maxRecDepth 100000
set_option maxHeartbeats 8000000
def sameW (a b c d e f:Int):Bool:=decide (a=d∧b=e∧c=f)
def liveIx (x:Wh):List Tx→Nat→Int
 | [],_=>-1
 | t :: l,k=>if t.who=x then (k:Int) else liveIx x l (k+1)
def RS.live (st:RS) (x:Wh):Int:=liveIx x st.txns 0
theorem drop_at {α:Type} {l:List α} {k:Nat} {x:α} (h:l[k]?=some x):l.drop k=x :: l.drop (k+1):=by
 obtain ⟨hk,rfl⟩:=List.getElem?_eq_some_iff.1 h
 exact List.drop_eq_getElem_cons hk
theorem sameW_t {a b c d e f:Int} (h:(a,b,c)=((d,e,f):Wh)):sameW a b c d e f=true:=by simp at h; simp [sameW,h]
theorem sameW_f {a b c d e f:Int} (h:¬ (a,b,c)=((d,e,f):Wh)):sameW a b c d e f=false:=by simp at h; simpa [sameW] using h
def valIx (a:Lab) (key:Int):List Plc→Int
 | []=>-1
 | p :: l=>if p.at_=a∧p.key=key then p.value else valIx a key l
def RS.val (st:RS) (a:Lab) (key:Int):Int:=valIx a key st.places
theorem sameL_t {a b c d:Int} (h:(a,b)=((c,d):Lab)):sameL a b c d=true:=by simp at h; simp [sameL,h]
def oldIx (key:Int):List (Int × Int)→Option Int
 | []=>none
 | o :: l=>if o.1=key then some o.2 else oldIx key l
def commIx (a:Lab) (key:Int):List Tx→Option Int
 | []=>none
 | t :: l=>if t.who.lab=a then (match oldIx key t.olds with | some v=>some v | none=>commIx a key l) else commIx a key l
def RS.comm (st:RS) (a:Lab) (key:Int):Int:=(commIx a key st.txns).getD (st.val a key)
theorem commIx_other {a:Lab} {key:Int} {t:Tx} {l:List Tx} (h:¬ t.who.lab=a):commIx a key (t :: l)=commIx a key l:=by rw [commIx,if_neg h]
theorem commIx_none {a:Lab} {key:Int} {t:Tx} {l:List Tx} (h:oldIx key t.olds=none):commIx a key (t :: l)=commIx a key l:=by
 rw [commIx]; split
 ·rw [h]
 ·rfl
theorem commIx_some {a:Lab} {key v:Int} {t:Tx} {l:List Tx} (h:t.who.lab=a) (h2:oldIx key t.olds=some v):commIx a key (t :: l)=some v:=by
 rw [commIx,if_pos h,h2]
end Go.Proofs.Ytpbcplfpjcacfaa
namespace Go.Proofs.Ytpbcplfpjcacfaa
open Go.RowKit
set_option maxRecDepth 100000
set_option maxHeartbeats 8000000
def lookPick (st:RS) (a:Lab) (k:Nat):Option (Int × Int):=if 0≤st.comm a k then some ((k:Int),st.comm a k) else none
def RS.lookTo (st:RS) (a:Lab) (n:Nat):List (Int × Int):=(List.range n).filterMap (lookPick st a)
def meetB (a b:Rc):Bool:=sameL a.at_.1 a.at_.2 b.at_.1 b.at_.2 && decide (a.lo≤b.hi) && decide (b.lo≤a.hi) && (a.write || b.write)
def coverB (a b:Rc):Bool:=!a.waits && sameL a.at_.1 a.at_.2 b.at_.1 b.at_.2 && decide (a.lo≤b.lo) && decide (b.hi≤a.hi) && (a.write || !b.write)
def hindB (a r:Rc):Bool :=
 if sameW a.who.1 a.who.2.1 a.who.2.2 r.who.1 r.who.2.1 r.who.2.2 || !sameL a.who.1 a.who.2.1 r.at_.1 r.at_.2 || !meetB a r then false
 else if !a.waits then true else sameL r.who.1 r.who.2.1 r.at_.1 r.at_.2 && decide (a.came < r.came)
theorem below2r {w:World} {o1 o2:Obj}:Below w.heap.size w ((w.alloc o1).alloc o2):=((Below.refl _ _).alloc (Nat.le_refl _) _).alloc (by simp) _
def RS.hindered (st:RS) (r:Rc):Bool:=st.recs.any (fun a=>hindB a r)
def isWt (x:Wh) (c:Rc):Bool:=c.waits && sameW c.who.1 c.who.2.1 c.who.2.2 x.1 x.2.1 x.2.2
def RS.waitRec (st:RS) (x:Wh):Option Rc:=st.recs.find? (isWt x)
def forP (y:Wh) (q c:Rc):Bool:=sameW c.who.1 c.who.2.1 c.who.2.2 y.1 y.2.1 y.2.2 && hindB c q
def RS.waitsFor (st:RS) (x y:Wh):Bool:=match st.waitRec x with
 | none=>false
 | some q=>sameL q.at_.1 q.at_.2 x.1 x.2.1 && st.recs.any (forP y q)
end Go.Proofs.Ytpbcplfpjcacfaa
