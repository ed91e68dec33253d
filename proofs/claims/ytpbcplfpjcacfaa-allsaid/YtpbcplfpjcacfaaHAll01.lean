import Derived.Deep.DeepAppendRoom
import Derived.Test.YtpbcplfpjcacfaaT21
namespace Go.Proofs.Ytpbcplfpjcacfaa
open Go.RowKit
set_option maxRecDepth 100000
set_option maxHeartbeats 8000000
theorem ChgD.refl {own:Own} {w:World}:ChgD own w w own:=⟨rfl,rfl,rfl,Nat.le_refl _,fun _ _ _=>rfl,fun _ h=>.inl h⟩
def pickZ (c n:Int):Int:=(if c < 0 then -(c+1) else c) % n
theorem pickZ_neg {c n:Int} (h:c < 0):-((c+1).tmod n)=pickZ c n:=by
 unfold pickZ
 rw [if_pos h,← Int.tmod_eq_emod_of_nonneg (by omega),Int.neg_tmod]
theorem pickZ_pos {c n:Int} (h:0≤c):c % n=pickZ c n:=by
 unfold pickZ
 rw [if_neg (by omega)]
theorem pickZ_range {c n:Int} (h:0 < n):0≤pickZ c n∧pickZ c n < n:=by
 unfold pickZ
 exact ⟨Int.emod_nonneg _ (by omega),Int.emod_lt_of_pos _ h⟩
def i64B (c:Int):Prop:=-9223372036854775808≤c∧c≤9223372036854775807
def y0:Wh:=(0,0,0)
end Go.Proofs.Ytpbcplfpjcacfaa
namespace Go.Proofs.Ytpbcplfpjcacfaa
open Go.RowKit
attribute [local go_sem ↓] Go.wp_at_zero Go.wp_at_succ
set_option maxRecDepth 100000
set_option maxHeartbeats 8000000
def ab (y:Wh):Stp:=⟨y,7,(0,0),0,0,0⟩
end Go.Proofs.Ytpbcplfpjcacfaa
namespace Go.Proofs.Ytpbcplfpjcacfaa
open Go.RowKit
set_option maxRecDepth 100000
set_option maxHeartbeats 8000000
theorem nextcap_wide (n:Nat):Builtin.nextslicecap (n+1) n≤n+(n+768) / 4+600:=by
 unfold Builtin.nextslicecap
 split
 ·omega
 ·split
  ·omega
  ·simp only [Builtin.growBy]
   split
   ·omega
   ·split
    ·omega
    ·exfalso
     omega
theorem made_row (w:World) (e size:Nat) (xs:List Value) (n cap:Nat) (z:Array Value) (hz:z.size=size) (hl:xs.length=n*size) (hn:n≤cap) (hm:cap≤maxLen) :
  (w.alloc (.cells (xs.toArray++Builtin.zeroCells z (cap - n)) e)).ownsRow 0 e size (.slice (some ⟨w.heap.size,0,none⟩) n cap) n xs:=by
 refine ⟨hl,.inr ⟨w.heap.size,cap,_,rfl,Nat.zero_le _,heap_alloc_new w _,hn,hm,?_,?_⟩⟩
 ·rw [Array.size_append,List.size_toArray,size_zeroCells,hz,hl,← Nat.add_mul]
  congr 1
  omega
 ·rw [Array.toList_append,← hl]
  exact List.take_left
theorem append_wide {P:Program} (w:World) (t ty e:TypeId) (i:TypeInfo) (z:Value) (size bytes:Nat) (ht:P.underlying t=some (.slice e)) (hi:P.info? e=some i) (hz:i.zero=some z)
  (hsize:i.size=size) (hby:i.bytes=bytes) (hzs:z.cells.size=size)
  (v:Value) (n:Nat) (xs:List Value) (hown:w.ownsRow 0 e size v n xs)
  (a:Addr) (c:Nat) (news:List Value) (hl:news.length=1*size) (hnews:∀ j u,news[j]?=some u→w.cell? (a.add j)=some u) (h1:∀ u∈news,u.oneCell'=true)
  (h63:n+1≤maxLen) (hbytes:(n+(n+768) / 4+600)*bytes≤281474976710656) :
  ∃ g cap w',(Builtin.append_ #[t,t] ty #[v,.slice (some a) 1 c]).run P w=.ok (.slice (some ⟨g,0,none⟩) (n+1) cap) w'∧w'.ownsRow 0 e size (.slice (some ⟨g,0,none⟩) (n+1) cap) (n+1) (xs++news) ∧
   ((v.ownBlock=some g∧w.grownBy w' (some g))∨(g=w.heap.size∧w.grownBy w' none))∧g < w'.heap.size:=by
 subst hsize
 subst hby
 have hsmall:n+1≤9223372036854775807:=by simp only [maxLen] at h63; omega
 have hgr:∀ o:Obj,w.grownBy (w.drew.alloc o) none:=fun o=>⟨rfl,rfl,rfl,by simp,fun k hk _=>Below.heap_alloc w.drew o k hk⟩
 have hlen:(xs++news).length=(n+1)*i.size:=by rw [List.length_append,hown.1,hl,Nat.add_mul]
 have hfit:Builtin.nextslicecap (n+1) n*i.bytes≤281474976710656:=Nat.le_trans (Nat.mul_le_mul_right _ (nextcap_wide n)) hbytes
 rcases hown.2 with ⟨rfl,rfl⟩ | ⟨g,cap,cur,rfl,hbg,hg,hnc,hcm,hcs,htake⟩
 ·have hx:xs=[]:=List.eq_nil_of_length_eq_zero (by simpa using hown.1)
  subst hx
  have hr:=run_append_nil (P:=P) w t ty e i z ht hi hz a 1 c news hl hnews (by omega) (by omega) (by
   have:1*i.bytes≤(0+(0+768) / 4+600)*i.bytes:=Nat.mul_le_mul_right _ (by omega)
   omega)
  refine ⟨_,_,_,hr,?_,.inr ⟨rfl,hgr _⟩,by simp⟩
  exact made_row w.drew e i.size news 1 _ z.cells hzs hl (grownCap_ge w 1 0 e) (grownCap_le_maxLen w 1 0 e h63)
 ·by_cases hroom:n+1≤cap
  ·obtain ⟨w',hr,h2,h3⟩:=run_append_own_spare (P:=P) w 0 t ty e i i.size ht hi rfl g n cap xs hown a 1 c news hl hnews h1 hroom
   exact ⟨g,cap,w',hr,h2,.inl ⟨rfl,h3⟩,Nat.lt_of_lt_of_le (Array.getElem?_eq_some_iff.1 hg).1 h3.size⟩
  ·have hcn:cap=n:=by omega
   subst hcn
   have hr:=run_append_grow (P:=P) w t ty e i z ht hi hz ⟨g,0,none⟩ cap cap xs hown.1 (hown.cells (g:=g) rfl) a 1 c news hl hnews (by omega) (by omega) hfit
   refine ⟨_,_,_,hr,?_,.inr ⟨rfl,hgr _⟩,by simp⟩
   have:=made_row w.drew e i.size (xs++news) (cap+1) (grownCap w (cap+1) cap e) z.cells hzs hlen (grownCap_ge w (cap+1) cap e) (grownCap_le_maxLen w (cap+1) cap e h63)
   rw [show (xs++news).toArray=xs.toArray++news.toArray by simp] at this
   exact this
end Go.Proofs.Ytpbcplfpjcacfaa
namespace Go.Proofs.Ytpbcplfpjcacfaa
open Go.RowKit
attribute [local go_sem ↓] Go.wp_at_zero Go.wp_at_succ
set_option maxRecDepth 100000
set_option maxHeartbeats 8000000
def TwoWay (w:World) (v:Value) (w':World) (v':Value):Prop:=(∃ g,v.ownBlock=some g∧v'.ownBlock=some g∧w.grownBy w' (some g))∨(v'.ownBlock=some w.heap.size∧w.grownBy w' none)
theorem append_two {P:Program} (w:World) (t ty e:TypeId) (i:TypeInfo) (z:Value) (size bytes:Nat) (ht:P.underlying t=some (.slice e)) (hi:P.info? e=some i) (hz:i.zero=some z)
  (hsize:i.size=size) (hby:i.bytes=bytes) (hzs:z.cells.size=size) (hsz:0 < size)
  (v:Value) (n:Nat) (xs:List Value) (hown:w.ownsRow 0 e size v n xs)
  (a:Addr) (m c:Nat) (news:List Value) (hl:news.length=m*size) (hnews:∀ j u,news[j]?=some u→w.cell? (a.add j)=some u) (h1:∀ u∈news,u.oneCell'=true)
  (hm:0 < m) (h63:n+m≤maxLen) (hbytes:(n+m)*bytes≤140737488355328) :
  ∃ v' w',(Builtin.append_ #[t,t] ty #[v,.slice (some a) m c]).run P w=.ok v' w'∧w'.ownsRow 0 e size v' (n+m) (xs++news)∧TwoWay w v w' v':=by
 obtain ⟨v',w',hr,h2,h3,h4⟩:=run_append_own (P:=P) w 0 t ty e i z size bytes ht hi hz hsize hby hzs hsz v n xs hown a m c news hl hnews h1 h63 hbytes (Nat.zero_le _)
 refine ⟨v',w',hr,h2,?_⟩
 subst hsize
 subst hby
 have hsmall:n+m≤9223372036854775807:=by simp only [maxLen] at h63; omega
 have hgr:∀ o:Obj,w.grownBy (w.drew.alloc o) none:=fun o=>⟨rfl,rfl,rfl,by simp,fun k hk _=>Below.heap_alloc w.drew o k hk⟩
 rcases hown.2 with ⟨rfl,rfl⟩ | ⟨g,cap,cur,rfl,hbg,hg,hnc,hcm,hcs,htake⟩
 ·have hr2:=run_append_nil (P:=P) w t ty e i z ht hi hz a m c news hl hnews hm (by omega) (by have hb:=hbytes; simp only [Nat.zero_add] at hb; omega)
  rw [hr] at hr2
  injection hr2 with e1 e2
  subst e1
  subst e2
  exact .inr ⟨rfl,hgr _⟩
 ·by_cases hroom:n+m≤cap
  ·have hfit:n*i.size+news.length≤cur.size:=by rw [hl,hcs,← Nat.add_mul]; exact Nat.mul_le_mul_right _ hroom
   have hr2:=run_append_room (P:=P) w t ty e i ht hi g n cap cur hg a m c news hl hnews h1 hroom hfit
   rw [hr] at hr2
   injection hr2 with e1 _
   subst e1
   exact .inl ⟨g,rfl,rfl,h3⟩
  ·have hr2:=run_append_grow (P:=P) w t ty e i z ht hi hz ⟨g,0,none⟩ n cap xs hown.1 (hown.cells (g:=g) rfl) a m c news hl hnews (by omega) (by omega) (growslice_fits (by omega) hbytes)
   rw [hr] at hr2
   injection hr2 with e1 e2
   subst e1
   subst e2
   exact .inr ⟨rfl,hgr _⟩
theorem wpList_append_two {P:Program} {w:World} {ops:Array Oper} {rest:List Oper} {o:Oper} {a:Act} {Q:Exit→Act→World→Prop} (hgd:o.guard=none) (s x:Operand) (t:TypeId)
  (ho:o.op=.call { callee:=.builtin .append,args:=#[s,x],argTypes:=#[t,t] })
  (e:TypeId) (i:TypeInfo) (z:Value) (size bytes:Nat) (ht:P.underlying t=some (.slice e)) (hi:P.info? e=some i) (hz:i.zero=some z)
  (hsize:i.size=size) (hby:i.bytes=bytes) (hzs:z.cells.size=size) (hsz:0 < size)
  (v:Value) (n:Nat) (xs:List Value) (hs:a.eval s=v) (hown:w.ownsRow 0 e size v n xs)
  (ad:Addr) (m c:Nat) (news:List Value) (hx:a.eval x=.slice (some ad) m c) (hl:news.length=m*size) (hnews:∀ j u,news[j]?=some u→w.cell? (ad.add j)=some u) (h1:∀ u∈news,u.oneCell'=true)
  (hm:0 < m) (h63:n+m≤maxLen) (hbytes:(n+m)*bytes≤140737488355328)
  (h:∀ v' w',w'.ownsRow 0 e size v' (n+m) (xs++news)→TwoWay w v w' v'→wpList P ops Q rest (a.put o.dst v') w'):wpList P ops Q (o :: rest) a w :=
 wpList_plain hgd fun K hK=>by
  obtain ⟨v',w',hr,h2,h3⟩:=append_two (P:=P) w t o.type e i z size bytes ht hi hz hsize hby hzs hsz v n xs hown ad m c news hl hnews h1 hm h63 hbytes
  unfold Oper.wp execOp
  simp only [ho,resolve,invoke,builtin,Sem.run_bind,Sem.run_pure,Result.andThen_ok,List.map_toArray,List.map_cons,List.map_nil,hs,hx,hr]
  exact hK _ _ (h v' w' h2 h3)
theorem wpList_append_wide {P:Program} {w:World} {ops:Array Oper} {rest:List Oper} {o:Oper} {a:Act} {Q:Exit→Act→World→Prop} (hgd:o.guard=none) (s x:Operand) (t:TypeId)
  (ho:o.op=.call { callee:=.builtin .append,args:=#[s,x],argTypes:=#[t,t] })
  (e:TypeId) (i:TypeInfo) (z:Value) (size bytes:Nat) (ht:P.underlying t=some (.slice e)) (hi:P.info? e=some i) (hz:i.zero=some z)
  (hsize:i.size=size) (hby:i.bytes=bytes) (hzs:z.cells.size=size)
  (v:Value) (n:Nat) (xs:List Value) (hs:a.eval s=v) (hown:w.ownsRow 0 e size v n xs)
  (ad:Addr) (c:Nat) (news:List Value) (hx:a.eval x=.slice (some ad) 1 c) (hl:news.length=1*size) (hnews:∀ j u,news[j]?=some u→w.cell? (ad.add j)=some u) (h1:∀ u∈news,u.oneCell'=true)
  (h63:n+1≤maxLen) (hbytes:(n+(n+768) / 4+600)*bytes≤281474976710656)
  (h:∀ v' w',w'.ownsRow 0 e size v' (n+1) (xs++news)→TwoWay w v w' v'→wpList P ops Q rest (a.put o.dst v') w'):wpList P ops Q (o :: rest) a w :=
 wpList_plain hgd fun K hK=>by
  obtain ⟨g,cap,w',hr,h2,h3,_⟩:=append_wide (P:=P) w t o.type e i z size bytes ht hi hz hsize hby hzs v n xs hown ad c news hl hnews h1 h63 hbytes
  have h4:TwoWay w v w' (.slice (some ⟨g,0,none⟩) (n+1) cap):=by
   rcases h3 with ⟨e1,e2⟩ | ⟨e1,e2⟩
   ·exact .inl ⟨g,e1,rfl,e2⟩
   ·exact .inr ⟨by rw [e1]; rfl,e2⟩
  unfold Oper.wp execOp
  simp only [ho,resolve,invoke,builtin,Sem.run_bind,Sem.run_pure,Result.andThen_ok,List.map_toArray,List.map_cons,List.map_nil,hs,hx,hr]
  exact hK _ _ (h _ w' h2 h4)
theorem setCells_app (b:Nat):∀ (xs ys:List Value) (o:Nat) (w:World),w.setCells b o (xs++ys)=(w.setCells b o xs).setCells b (o+xs.length) ys
 | [],ys,o,w=>rfl
 | x :: xs,ys,o,w=>by
  rw [List.cons_append]
  show (w.setCell ⟨b,o,none⟩ x).setCells b (o+1) (xs++ys)=_
  rw [setCells_app b xs ys (o+1) (w.setCell ⟨b,o,none⟩ x),List.length_cons,show o+(xs.length+1)=o+1+xs.length by omega]
  rfl
theorem setCells_two (w:World) (b o q:Nat) (v:Value):((w.setCells b o (List.replicate (2*q) v)).setCell ⟨b,o+2*q,none⟩ v).setCell ⟨b,o+2*q+1,none⟩ v=w.setCells b o (List.replicate (2*(q+1)) v):=by
 have e:List.replicate (2*(q+1)) v=List.replicate (2*q) v++[v,v]:=by
  rw [show 2*(q+1)=2*q+2 by omega,← List.replicate_append_replicate]; rfl
 rw [e,setCells_app,List.length_replicate]
 rfl
def ptrC (b:Nat):List Value:=[.pointer (some ⟨b,0,none⟩)]
def oneC (v:Value):List Value:=[v]
def OutAt (w:World) (own:Own) (j:Nat) (v:Value):Prop:=v=.slice none 0 0∨∃ b off n cap,(v=.slice (some ⟨b,off,none⟩) n cap∧n < 1000)∧own b=some (9,0,0,0)∧∀ i,i < 2*n→w.cell? ⟨b,off+i,none⟩=some (.int .i64 (-1 - (j:Int)))
structure WMem (w:World) (g:Nat) (bsv outv:Value) (bl:List Nat) (outs:List Value) (own:Own):Prop where
 root:w.heap[g]?=some (.cells #[bsv,outv] 54 (0,0))
 tag:own g=some (1,0,0,0)
 bs:Row w own (2,0,0,0) 37 1 bsv bl ptrC
 orow:Row w own (3,0,0,0) 44 1 outv outs oneC
 out:∀ j v,outs[j]?=some v→OutAt w own j v
 old:∀ q,own q≠none→q < w.heap.size
theorem WMem.frame {w w':World} {g:Nat} {bsv outv:Value} {bl:List Nat} {outs:List Value} {own:Own} (m:WMem w g bsv outv bl outs own) (hk:∀ q,own q≠none→w'.heap[q]?=w.heap[q]?) (hs:w.heap.size≤w'.heap.size):WMem w' g bsv outv bl outs own where
 root:=by rw [hk g (by rw [m.tag]; simp)]; exact m.root
 tag:=m.tag
 bs:=m.bs.frame (fun q hq=>hk q (by rw [hq]; simp)) (fun _ h=>h)
 orow:=m.orow.frame (fun q hq=>hk q (by rw [hq]; simp)) (fun _ h=>h)
 out:=fun j v hj=>by
  rcases m.out j v hj with h | ⟨b,off,n,cap,h1,h2,h3⟩
  ·exact .inl h
  ·exact .inr ⟨b,off,n,cap,h1,h2,fun i hi=>(World.cell?_of_block (hk b (by rw [h2]; simp))).trans (h3 i hi)⟩
 old:=fun q hq=>Nat.lt_of_lt_of_le (m.old q hq) hs
theorem WMem.below {w w':World} {g:Nat} {bsv outv:Value} {bl:List Nat} {outs:List Value} {own:Own} (m:WMem w g bsv outv bl outs own) (hb:Below w.heap.size w w'):WMem w' g bsv outv bl outs own:=m.frame (fun q hq=>hb.block q (m.old q hq)) hb.size
theorem WMem.ext {w:World} {g:Nat} {bsv outv:Value} {bl:List Nat} {outs:List Value} {own own':Own} (m:WMem w g bsv outv bl outs own) (hx:∀ q t,own q=some t→own' q=some t) (ho:∀ q,own' q≠none→q < w.heap.size):WMem w g bsv outv bl outs own' :=
 ⟨m.root,hx _ _ m.tag,m.bs.frame (fun _ _=>rfl) (fun q hq=>hx q _ hq),m.orow.frame (fun _ _=>rfl) (fun q hq=>hx q _ hq),fun j v hj=>by
  rcases m.out j v hj with h | ⟨b,off,n,cap,h1,h2,h3⟩
  ·exact .inl h
  ·exact .inr ⟨b,off,n,cap,h1,hx b _ h2,h3⟩,ho⟩
def EndsBy (outs:List Value) (b e:Nat):Prop:=∀ (j:Nat) (v:Value),outs[j]?=some v→∀ off n cap,v=Value.slice (some ⟨b,off,none⟩) n cap→off+2*n≤e
theorem WMem.cells {w:World} {g:Nat} {bsv outv:Value} {bl:List Nat} {outs:List Value} {own:Own} (m:WMem w g bsv outv bl outs own) {b off:Nat} (hb:own b=some (9,0,0,0)) (he:EndsBy outs b off) (vs:List Value):WMem (w.setCells b off vs) g bsv outv bl outs own:=by
 have hne:∀ q t,own q=some t→t≠(9,0,0,0)→q≠b:=fun q t hq ht e=>by rw [e,hb] at hq; exact ht (Option.some.inj hq).symm
 have hsame:∀ q,q≠b→(w.setCells b off vs).heap[q]?=w.heap[q]?:=fun q hq=>setCells_other _ _ _ _ hq
 exact {
  root:=by rw [hsame g (hne g _ m.tag (by intro c; cases c))]; exact m.root
  tag:=m.tag
  bs:=m.bs.frame (fun q hq=>hsame q (hne q _ hq (by intro c; cases c))) (fun _ h=>h)
  orow:=m.orow.frame (fun q hq=>hsame q (hne q _ hq (by intro c; cases c))) (fun _ h=>h)
  out:=fun j v hj=>by
   rcases m.out j v hj with h | ⟨b',off',n,cap,h1,h2,h3⟩
   ·exact .inl h
   ·refine .inr ⟨b',off',n,cap,h1,h2,fun i hi=>?_⟩
    rw [← h3 i hi]
    refine World.cell?_setCells_out b vs off w ⟨b',off'+i,none⟩ (fun e _=>.inl ?_)
    have e':b'=b:=e
    subst e'
    have:=he j v hj off' n cap h1.1
    show off'+i < off
    omega
  old:=fun q hq=>by rw [setCells_size]; exact m.old q hq }
def Marked (w w1:World) (g:Nat) (bsv:Value) (bl:List Nat) (outs:List Value) (own:Own) (lv:Value) (w':World):Prop :=
 ∃ outv' own',WMem w' g bsv outv' bl (outs++[lv]) own'∧ChgD own w w' own'∧(∀ q t,own q=some t→own' q=some t)∧∀ q,own q=some (9,0,0,0)→w'.heap[q]?=w1.heap[q]?
theorem WMem.noted {w w1 W w2:World} {g:Nat} {bsv outv outv' lv:Value} {bl:List Nat} {outs:List Value} {own:Own} (m:WMem w1 g bsv outv bl outs own) (hc:ChgD own w w1 own)
  (hW:Below w1.heap.size w1 W) (htw:TwoWay W outv w2 outv') (hrow:w2.ownsRow 0 44 1 outv' (outs.length+1) (outs.flatMap oneC++[lv])) (hlv:OutAt w1 own outs.length lv) :
  Marked w w1 g bsv bl outs own lv (w2.setCell ⟨g,1,none⟩ outv'):=by
 have hgl:=m.old g (by rw [m.tag]; simp)
 have hnew:outv'.ownBlock=outv.ownBlock∨outv'.ownBlock=some W.heap.size:=by
  rcases htw with ⟨q,h1,h2,_⟩ | ⟨h1,_⟩
  ·exact .inl (h2.trans h1.symm)
  ·exact .inr h1
 have hgrow:∀ q,q < W.heap.size→some q≠outv.ownBlock→w2.heap[q]?=W.heap[q]?:=fun q hq hne=>by
  rcases htw with ⟨q',h1,h2,h3⟩ | ⟨h1,h3⟩
  ·exact h3.block q hq (by rw [← h1]; exact hne)
  ·exact h3.block q hq (by simp)
 have hsz:W.heap.size≤w2.heap.size:=by
  rcases htw with ⟨q',h1,h2,h3⟩ | ⟨h1,h3⟩
  ·exact h3.size
  ·exact h3.size
 have hmisc:w2.os=W.os∧w2.tape=W.tape∧w2.output=W.output:=by
  rcases htw with ⟨q',h1,h2,h3⟩ | ⟨h1,h3⟩
  ·exact ⟨h3.os,h3.tape,h3.output⟩
  ·exact ⟨h3.os,h3.tape,h3.output⟩
 have hob:∀ q,outv.ownBlock=some q→own q=some (3,0,0,0):=m.orow.2
 have hx:∀ q t,own q=some t→ownNew own outv' (3,0,0,0) q=some t:=fun q t hq=>by
  unfold ownNew
  split
  ·rename_i e
   rcases hnew with h | h
   ·rw [h] at e
    have:=hob q e
    rw [hq] at this; exact this.symm
   ·rw [h] at e
    have e':W.heap.size=q:=Option.some.inj e
    have h1:=m.old q (by rw [hq]; simp)
    have h2:=hW.size
    omega
  ·exact hq
 have hgb:outv'.ownBlock≠some g:=fun e=>by
  rcases hnew with h | h
  ·rw [h] at e
   have:=hob g e
   rw [m.tag] at this; cases this
  ·rw [h] at e
   have e':W.heap.size=g:=Option.some.inj e
   have:=hW.size
   omega
 have hkeep:∀ q,own q≠none→q≠g→some q≠outv.ownBlock→(w2.setCell ⟨g,1,none⟩ outv').heap[q]?=w1.heap[q]?:=fun q hq hqg hne=>by
  have hl:=m.old q hq
  rw [heap_setCell_ne _ _ _ _ _ hqg,hgrow q (by have:=hW.size; omega) hne,hW.block q hl]
 have hng:some g≠outv.ownBlock:=fun e=>by
  have:=hob g e.symm
  rw [m.tag] at this; cases this
 have hn3:∀ q t,own q=some t→t≠(3,0,0,0)→some q≠outv.ownBlock:=fun q t hq ht e=>by
  have:=hob q e.symm
  rw [hq] at this; exact ht (Option.some.inj this)
 have hn1:∀ q t,own q=some t→t≠(1,0,0,0)→q≠g:=fun q t hq ht e=>by
  rw [e,m.tag] at hq; exact ht (Option.some.inj hq).symm
 have hroot2:w2.heap[g]?=some (.cells #[bsv,outv] 54 (0,0)):=by
  rw [hgrow g (by have:=hW.size; omega) hng,hW.block g hgl]; exact m.root
 have hroot3:=heap_setCell_same w2 g 1 _ _ outv' hroot2
 have hbl:∀ q,outv'.ownBlock=some q→q < w2.heap.size:=ownsRow_lt hrow
 refine ⟨outv',ownNew own outv' (3,0,0,0),⟨?_,hx _ _ m.tag,?_,⟨?_,fun q hq=>by unfold ownNew; rw [if_pos hq]⟩,fun j v hj=>?_,fun q hq=>?_⟩,⟨?_,?_,?_,?_,fun q hq hn=>?_,fun q hq=>?_⟩,hx,fun q hq=>hkeep q (by rw [hq]; simp) (hn1 q _ hq (by intro c; cases c)) (hn3 q _ hq (by intro c; cases c))⟩
 ·simpa using hroot3
 ·exact m.bs.frame (fun q hq=>hkeep q (by rw [hq]; simp) (hn1 q _ hq (by intro c; cases c)) (hn3 q _ hq (by intro c; cases c))) (fun q hq=>hx q _ hq)
 ·rw [List.length_append,List.flatMap_append]
  have:=ownsRow_frame hrow (w':=w2.setCell ⟨g,1,none⟩ outv') (fun q hq=>heap_setCell_ne _ _ _ _ _ (fun e=>hgb (by rw [← e]; exact hq)))
  simpa [oneC] using this
 ·rcases Nat.lt_or_ge j outs.length with hlt | hge
  ·rw [List.getElem?_append_left hlt] at hj
   rcases m.out j v hj with h | ⟨b,off,n,cap,h1,h2,h3⟩
   ·exact .inl h
   ·exact .inr ⟨b,off,n,cap,h1,hx b _ h2,fun i hi=>(World.cell?_of_block (hkeep b (by rw [h2]; simp) (hn1 b _ h2 (by intro c; cases c)) (hn3 b _ h2 (by intro c; cases c)))).trans (h3 i hi)⟩
  ·rw [List.getElem?_append_right hge] at hj
   have hj0:j=outs.length:=by
    have:=(List.getElem?_eq_some_iff.1 hj).1
    simp at this
    omega
   subst hj0
   have hv:lv=v:=by simpa using hj
   subst hv
   rcases hlv with h | ⟨b,off,n,cap,h1,h2,h3⟩
   ·exact .inl h
   ·exact .inr ⟨b,off,n,cap,h1,hx b _ h2,fun i hi=>(World.cell?_of_block (hkeep b (by rw [h2]; simp) (hn1 b _ h2 (by intro c; cases c)) (hn3 b _ h2 (by intro c; cases c)))).trans (h3 i hi)⟩
 ·unfold ownNew at hq
  split at hq
  ·rename_i e
   have:=hbl q e
   simpa using this
  ·have h1:=m.old q hq
   have h2:=hW.size
   simp
   omega
 ·exact hmisc.1.trans (hW.os.trans hc.os)
 ·exact hmisc.2.1.trans (hW.tape.trans hc.tape)
 ·exact hmisc.2.2.trans (hW.output.trans hc.output)
 ·have h1:=hc.size
  have h2:=hW.size
  simp
  omega
 ·have h1:=hc.size
  have h2:=hW.size
  have hqg:q≠g:=fun e=>by rw [e,m.tag] at hn; cases hn
  have hqo:some q≠outv.ownBlock:=fun e=>by have:=hob q e.symm; rw [hn] at this; cases this
  rw [heap_setCell_ne _ _ _ _ _ hqg,hgrow q (by omega) hqo,hW.block q (by omega)]
  exact hc.block q hq hn
 ·have h1:=hc.size
  have h2:=hW.size
  unfold ownNew at hq
  split at hq
  ·rename_i e
   rcases hnew with h | h
   ·rw [h] at e
    exact .inl (by rw [hob q e]; simp)
   ·rw [h] at e
    have e':W.heap.size=q:=Option.some.inj e
    exact .inr (by omega)
  ·exact .inl hq
theorem infoItems:(Try.prog.info? 44).map (fun i=>(i.zero,i.size,i.bytes))=some (some (.slice none 0 0),1,24):=by kernel_rfl
theorem cell_new1 (w:World) (v:Value) (c n:Nat) (hn:n=w.heap.size):∀ j u,[v][j]?=some u→(w.alloc (.cells #[v] c)).cell? ((⟨n,0,none⟩:Addr).add j)=some u:=by
 subst hn
 intro j u hj
 have:=heap_alloc_new w (.cells #[v] c (0,0))
 rw [show (⟨w.heap.size,0,none⟩:Addr).add j=⟨w.heap.size,j,none⟩ by simp [Addr.add]; exact fun h=>h.symm,cell_of_row _ _ j _ _ _ this]
 simpa using hj
theorem len_oneC (v:Value):(oneC v).length=1:=rfl
theorem len_ptrC (b:Nat):(ptrC b).length=1:=rfl
theorem flat_one:∀ l:List Value,l.flatMap oneC=l
 | []=>rfl
 | v :: l=>by rw [List.flatMap_cons,flat_one l]; rfl
theorem TwoWay.block {w w':World} {v v':Value} (h:TwoWay w v w' v') {q:Nat} (hq:q < w.heap.size) (hne:some q≠v.ownBlock):w'.heap[q]?=w.heap[q]?:=by
 rcases h with ⟨g,h1,_,h3⟩ | ⟨_,h3⟩
 ·exact h3.block q hq (by rw [← h1]; exact hne)
 ·exact h3.block q hq (by simp)
theorem TwoWay.size {w w':World} {v v':Value} (h:TwoWay w v w' v'):w.heap.size≤w'.heap.size:=by
 rcases h with ⟨g,h1,_,h3⟩ | ⟨_,h3⟩
 ·exact h3.size
 ·exact h3.size
theorem chgD_cells {own:Own} {w:World} {b o:Nat} (hb:own b≠none) (vs:List Value):ChgD own w (w.setCells b o vs) own:=by
 have hk:=World.keptBut_setCells b (may:=fun _=>True) vs o w (fun _ _=>trivial)
 exact ⟨hk.1,setCells_tape _ _ _,hk.2.1,by rw [setCells_size]; exact Nat.le_refl _,fun q _ hn=>setCells_other _ _ _ _ (fun e=>hb (by rw [← e]; exact hn)),fun q hq=>.inl hq⟩
structure MarkIn (w:World) (g:Nat) (bsv outv:Value) (bl:List Nat) (outs:List Value) (own:Own) (b off n:Nat):Prop where
 mem:WMem w g bsv outv bl outs own
 tag:own b=some (9,0,0,0)
 there:w.there b off (2*n)
 ends:EndsBy outs b off
 small:n < 1000
 len:outs.length < 8000000000000
theorem mark_out {w:World} {own:Own} {b off n cap j:Nat} (hn:n < 1000) (hb:own b=some (9,0,0,0)) (hth:w.there b off (2*n)):OutAt (w.setCells b off (List.replicate (2*n) (.int .i64 (-1 - (j:Int))))) own j (.slice (some ⟨b,off,none⟩) n cap):=by
 refine .inr ⟨b,off,n,cap,⟨rfl,hn⟩,hb,fun i hi=>?_⟩
 have:=World.rangeAt_setCells_same w b off (List.replicate (2*n) (.int .i64 (-1 - (j:Int)))) (by rw [List.length_replicate]; exact hth)
 exact this i _ (by rw [List.getElem?_replicate,if_pos hi])
theorem mark_any (g b off n cap:Nat) (bsv outv:Value) (bl:List Nat) (outs:List Value) (own:Own) (w:World) (I:MarkIn w g bsv outv bl outs own b off n) :
  Calls Try.prog 49 #[.pointer (some ⟨g,0,none⟩),.slice (some ⟨b,off,none⟩) n cap] w fun e w'=>e=.returned (.tuple #[])∧Marked w (w.setCells b off (List.replicate (2*n) (.int .i64 (-1 - (outs.length:Int))))) g bsv bl outs own (.slice (some ⟨b,off,none⟩) n cap) w':=by
 obtain ⟨m,hb,hth,he,hn,hlen⟩:=I
 obtain ⟨j0,hj0,hz0,hs0,hb0⟩:=info_all infoItems
 obtain ⟨ao,co,rfl⟩:=ownsRow_slice m.orow.1
 have hgl:=m.old g (by rw [m.tag]; simp)
 have hbl:=m.old b (by rw [hb]; simp)
 have hgb:g≠b:=fun e=>by have:=m.tag; rw [e,hb] at this; cases this
 have c1:w.cell? ⟨g,1,none⟩=some (.slice ao outs.length co):=by rw [cell_of_row w g 1 _ _ _ m.root]; rfl
 have HM:Hid (WMem w g bsv (.slice ao outs.length co) bl outs own):=m
 have HTH:Hid (type_of% hth):=hth
 have HEN:Hid (EndsBy outs b off):=he
 have HTG:Hid (own b=some (9,0,0,0)):=hb
 have zlen:(outs.length:Int) < 8000000000000:=by omega
 clear m hth he hb
 go_enter Try.func49,Try.ntmps49
 go_wp2_with fail
 go_loopw [5] (fun i wr=>∃ q:Nat,q≤n∧i=.int .i64 q∧Hid (wr=w.setCells b off (List.replicate (2*q) (.int .i64 (-1 - (outs.length:Int)))))) (fun i _=>n - (intOf i).toNat)
 case atStart=>exact ⟨0,Nat.zero_le _,rfl,rfl⟩
 case round =>
  obtain ⟨q,hq,rfl,hwr⟩:=hrel
  by_cases hlt:q < n
  ·have zq:(q:Int) < (n:Int):=by omega
   have hT:wr.there b off (2*n):=by rw [hwr.out]; exact World.there_setCells HTH.out _ _ _
   obtain ⟨v0,k0⟩:=Option.isSome_iff_exists.1 (hT (2*q) (by omega)).1
   obtain ⟨v1,k1⟩:=Option.isSome_iff_exists.1 (hT (2*q+1) (by omega)).1
   have f0:=(hT (2*q) (by omega)).2
   have f1:=(hT (2*q+1) (by omega)).2
   rw [show off+(2*q+1)=off+q*2+1 by omega] at k1 f1
   rw [show off+2*q=off+q*2 by omega] at k0 f0
   have zb:b < wr.heap.size:=by rw [hwr.out,setCells_size]; exact hbl
   have HW:Hid ((wr.setCell ⟨b,off+q*2,none⟩ (.int .i64 (-1 - (outs.length:Int)))).setCell ⟨b,off+q*2+1,none⟩ (.int .i64 (-1 - (outs.length:Int)))=w.setCells b off (List.replicate (2*(q+1)) (.int .i64 (-1 - (outs.length:Int))))):=by
    unfold Hid
    rw [hwr.out,show off+q*2=off+2*q by omega]
    exact setCells_two w b off q _
   clear hT
   go_wp2
   go_roundw
   case rel=>exact ⟨q+1,by omega,by go_num,HW⟩
   case measure=>simp [intOf]; omega
  ·have e:q=n:=by omega
   subst e
   have hm1:WMem wr g bsv (.slice ao outs.length co) bl outs own:=by rw [hwr.out]; exact HM.out.cells HTG.out HEN.out _
   have hc1:ChgD own w wr own:=by rw [hwr.out]; exact chgD_cells (by rw [HTG.out]; simp) _
   have hlv:OutAt wr own outs.length (.slice (some ⟨b,off,none⟩) q cap):=by rw [hwr.out]; exact mark_out hn HTG.out HTH.out
   have HM1:Hid (type_of% hm1):=hm1
   have HC1:Hid (type_of% hc1):=hc1
   have HLV:Hid (type_of% hlv):=hlv
   have zg:g < wr.heap.size:=hm1.old g (by rw [hm1.tag]; simp)
   have d1:wr.cell? ⟨g,1,none⟩=some (.slice ao outs.length co):=by rw [cell_of_row wr g 1 _ _ _ hm1.root]; rfl
   have hrow:=hm1.orow.1
   rw [flat_one] at hrow
   have HROW:Hid (type_of% hrow):=hrow
   have hng:some g≠(Value.slice ao outs.length co).ownBlock:=fun e=>by
    have:=hm1.orow.2 g e.symm
    rw [hm1.tag] at this; cases this
   have HNG:Hid (type_of% hng):=hng
   clear hm1 hc1 hlv c1 hrow hng
   go_wp2_with (at_builtin; refine wpList_append_wide rfl _ _ 52 rfl 44 j0 (.slice none 0 0) 1 24 Try.underlying52 hj0 hz0 hs0 hb0 rfl _ _ _ rfl (HROW.out.alloc _) ⟨wr.heap.size,0,none⟩ 1 [.slice (some ⟨b,off,none⟩) q cap] rfl rfl ?c1 ?c2 ?c3 ?c4 ?_)
   case c1=>exact cell_new1 wr _ 44 _ rfl
   case c2=>intro u hu; simp at hu; subst hu; rfl
   case c3=>unfold maxLen; omega
   case c4=>omega
   intro v' w2 hrow2 htw
   obtain ⟨ao2,co2,rfl⟩:=ownsRow_slice hrow2
   have hA:Below wr.heap.size wr (wr.alloc (.cells #[.slice (some ⟨b,off,none⟩) q cap] 44)):=(Below.refl _ _).alloc (Nat.le_refl _) _
   have hroot2:w2.heap[g]?=some (.cells #[bsv,.slice ao outs.length co] 54 (0,0)):=by
    rw [htw.block (by simp; omega) HNG.out,hA.block g zg]; exact HM1.out.root
   have k1:w2.cell? ⟨g,1,none⟩=some (.slice ao outs.length co):=by rw [cell_of_row w2 g 1 _ _ _ hroot2]; rfl
   have f1:w2.frozen? ⟨g,1,none⟩=false:=frozen_of_row w2 g 1 _ _ hroot2
   have zg2:g < w2.heap.size:=(Array.getElem?_eq_some_iff.1 hroot2).1
   have HFIN:Hid (Marked w wr g bsv bl outs own (.slice (some ⟨b,off,none⟩) q cap) (w2.setCell ⟨g,1,none⟩ (.slice ao2 (outs.length+1) co2))):=HM1.out.noted HC1.out hA htw (by rw [flat_one]; exact hrow2) HLV.out
   rw [hwr.out] at HFIN
   clear hrow2 htw hroot2 hA
   go_wp2
   exact bodyPost_end (v:=.tuple #[]) (by simp [results,Try.results49,go_sem]) rfl ⟨rfl,HFIN.out⟩
theorem mark_nil (g:Nat) (bsv outv:Value) (bl:List Nat) (outs:List Value) (own:Own) (w:World) (m:WMem w g bsv outv bl outs own) (hlen:outs.length < 8000000000000) :
  Calls Try.prog 49 #[.pointer (some ⟨g,0,none⟩),.slice none 0 0] w fun e w'=>e=.returned (.tuple #[])∧Marked w w g bsv bl outs own (.slice none 0 0) w':=by
 obtain ⟨j0,hj0,hz0,hs0,hb0⟩:=info_all infoItems
 obtain ⟨ao,co,rfl⟩:=ownsRow_slice m.orow.1
 have zg:=m.old g (by rw [m.tag]; simp)
 have c1:w.cell? ⟨g,1,none⟩=some (.slice ao outs.length co):=by rw [cell_of_row w g 1 _ _ _ m.root]; rfl
 have HM1:Hid (WMem w g bsv (.slice ao outs.length co) bl outs own):=m
 have zlen:(outs.length:Int) < 8000000000000:=by omega
 have hrow:=m.orow.1
 rw [flat_one] at hrow
 have HROW:Hid (type_of% hrow):=hrow
 have hng:some g≠(Value.slice ao outs.length co).ownBlock:=fun e=>by
  have:=m.orow.2 g e.symm
  rw [m.tag] at this; cases this
 have HNG:Hid (type_of% hng):=hng
 clear m hrow hng
 go_enter Try.func49,Try.ntmps49
 go_wp2_with fail
 go_loopw [5] (fun i wr=>i=.int .i64 0∧wr=w) (fun _ _=>0)
 case atStart=>exact ⟨rfl,rfl⟩
 case round =>
  obtain ⟨rfl,hwr⟩:=hrel
  subst hwr
  go_wp2_with (at_builtin; refine wpList_append_wide rfl _ _ 52 rfl 44 j0 (.slice none 0 0) 1 24 Try.underlying52 hj0 hz0 hs0 hb0 rfl _ _ _ rfl (HROW.out.alloc _) ⟨wr.heap.size,0,none⟩ 1 [.slice none 0 0] rfl rfl ?c1 ?c2 ?c3 ?c4 ?_)
  case c1=>exact cell_new1 wr _ 44 _ rfl
  case c2=>intro u hu; simp at hu; subst hu; rfl
  case c3=>unfold maxLen; omega
  case c4=>omega
  intro v' w2 hrow2 htw
  obtain ⟨ao2,co2,rfl⟩:=ownsRow_slice hrow2
  have hA:Below wr.heap.size wr (wr.alloc (.cells #[.slice none 0 0] 44)):=(Below.refl _ _).alloc (Nat.le_refl _) _
  have hroot2:w2.heap[g]?=some (.cells #[bsv,.slice ao outs.length co] 54 (0,0)):=by
   rw [htw.block (by simp; omega) HNG.out,hA.block g zg]; exact HM1.out.root
  have k1:w2.cell? ⟨g,1,none⟩=some (.slice ao outs.length co):=by rw [cell_of_row w2 g 1 _ _ _ hroot2]; rfl
  have f1:w2.frozen? ⟨g,1,none⟩=false:=frozen_of_row w2 g 1 _ _ hroot2
  have zg2:g < w2.heap.size:=(Array.getElem?_eq_some_iff.1 hroot2).1
  have HFIN:Hid (Marked wr wr g bsv bl outs own (.slice none 0 0) (w2.setCell ⟨g,1,none⟩ (.slice ao2 (outs.length+1) co2))):=HM1.out.noted ChgD.refl hA htw (by rw [flat_one]; exact hrow2) (.inl rfl)
  clear hrow2 htw hroot2 hA
  go_wp2
  exact bodyPost_end (v:=.tuple #[]) (by simp [results,Try.results49,go_sem]) rfl ⟨rfl,HFIN.out⟩
theorem whole_any (g:Nat) (bsv outv:Value) (bl:List Nat) (outs:List Value) (own:Own) (w:World) (m:WMem w g bsv outv bl outs own) (hlen:outs.length < 8000000000000) :
  Calls Try.prog 22 #[.pointer (some ⟨g,0,none⟩)] w fun e w'=>e=.returned (.bool true)∧w'=w:=by
 have hform:=m.orow.form len_oneC
 obtain ⟨ao,co,rfl,hmx,hel⟩:=hform
 have zg:=m.old g (by rw [m.tag]; simp)
 have c1:w.cell? ⟨g,1,none⟩=some (.slice ao outs.length co):=by rw [cell_of_row w g 1 _ _ _ m.root]; rfl
 have HM:Hid (WMem w g bsv (.slice ao outs.length co) bl outs own):=m
 have HEL:Hid (type_of% hel):=hel
 clear m hel
 go_enter Try.func22,Try.ntmps22
 go_wp2_with fail
 go_loopw [3] (fun i wr=>∃ q:Nat,q≤outs.length∧i=.int .i64 q∧wr=w) (fun i _=>outs.length - (intOf i).toNat)
 case atStart=>exact ⟨0,Nat.zero_le _,rfl,rfl⟩
 case round =>
  obtain ⟨q,hq,rfl,hwr⟩:=hrel
  subst hwr
  by_cases hlt:q < outs.length
  ·have zq:(q:Int) < (outs.length:Int):=by omega
   have hg:=List.getElem?_eq_getElem hlt
   generalize outs[q]=lv at hg
   obtain ⟨ko,rfl,_,hkl,hkr,_⟩:=HEL.out q lv hg
   have ce:wr.cell? ⟨ko,q,none⟩=some lv:=by
    have:=hkr 0 lv rfl
    rw [Nat.mul_one] at this
    exact this
   obtain ⟨w0,hw0⟩:∃ u,u=wr:=⟨_,rfl⟩
   subst hw0
   rcases HM.out.out q lv hg with rfl | ⟨b,off,n,cap,⟨rfl,hnn⟩,hob,hcl⟩
   ·go_wp2_with fail
    go_loopw [4] (fun i wr=>i=.int .i64 0∧wr=w0) (fun _ _=>0)
    case atStart=>exact ⟨rfl,rfl⟩
    case round =>
     obtain ⟨rfl,hwr⟩:=hrel
     subst hwr
     go_wp2
     go_roundw
     case rel=>exact ⟨q+1,by omega,by go_num,trivial⟩
     case measure=>simp [intOf]; omega
   ·have zb:b < w0.heap.size:=HM.out.old b (by rw [hob]; simp)
    have HCL:Hid (type_of% hcl):=hcl
    clear hcl
    go_wp2_with fail
    go_loopw [4] (fun i wr=>∃ k:Nat,k≤n∧i=.int .i64 k∧wr=w0) (fun i _=>n - (intOf i).toNat)
    case atStart=>exact ⟨0,Nat.zero_le _,rfl,rfl⟩
    case round =>
     obtain ⟨k,hk,rfl,hwr⟩:=hrel
     subst hwr
     by_cases hkt:k < n
     ·have zk:(k:Int) < (n:Int):=by omega
      have e0:=HCL.out (2*k) (by omega)
      have e1:=HCL.out (2*k+1) (by omega)
      rw [show off+(2*k+1)=off+k*2+1 by omega] at e1
      rw [show off+2*k=off+k*2 by omega] at e0
      go_wp2
      go_roundw
      case rel=>exact ⟨k+1,by omega,by go_num,trivial⟩
      case measure=>simp [intOf]; omega
     ·go_wp2
      go_roundw
      case rel=>exact ⟨q+1,by omega,by go_num,trivial⟩
      case measure=>simp [intOf]; omega
  ·go_wp2
   go_ret
   exact ⟨rfl,rfl⟩
structure ListAt (w:World) (outs:List Value) (own:Own) (mv:Value) (N:Nat) (xs:List Value):Prop where
 row:w.ownsRow 0 94 2 mv N xs
 tag:∀ b,mv.ownBlock=some b→own b=some (9,0,0,0)
 ends:∀ b,mv.ownBlock=some b→EndsBy outs b (2*N)
def Mining (w0:World) (own0:Own) (g:Nat) (bsv:Value) (bl:List Nat) (M N:Nat) (mv:Value) (w:World):Prop :=
 ∃ outv outs own xs,WMem w g bsv outv bl outs own∧outs.length=M∧ListAt w outs own mv N xs∧ChgD own0 w0 w own∧∀ q t,own0 q=some t→own q=some t
theorem EndsBy.snoc {outs:List Value} {b e e':Nat} {lv:Value} (h:EndsBy outs b e) (he:e≤e') (hl:∀ off n cap,lv=Value.slice (some ⟨b,off,none⟩) n cap→off+2*n≤e'):EndsBy (outs++[lv]) b e':=by
 intro j v hj off n cap hv
 rcases Nat.lt_or_ge j outs.length with hlt | hge
 ·rw [List.getElem?_append_left hlt] at hj
  have:=h j v hj off n cap hv
  omega
 ·rw [List.getElem?_append_right hge] at hj
  have hz:j - outs.length=0:=by
   have:=(List.getElem?_eq_some_iff.1 hj).1
   simp at this
   omega
  rw [hz] at hj
  have e2:lv=v:=by simpa using hj
  exact hl off n cap (by rw [e2]; exact hv)
theorem owns_there {w:World} {b N cap:Nat} {xs:List Value} (h:w.ownsRow 0 94 2 (.slice (some ⟨b,0,none⟩) N cap) N xs) {a n:Nat} (hn:a+n≤N):w.there b (2*a) (2*n):=by
 rcases h.2 with ⟨e,_⟩ | ⟨g,cap',cur,e,_,hg,hnc,_,hcs,_⟩
 ·cases e
 ·injection e with e1 e2 e3
  injection e1 with e1
  injection e1 with e1
  subst e1
  intro j hj
  refine ⟨?_,frozen_of_row w b _ cur _ hg⟩
  rw [cell_of_row w b _ cur _ _ hg,Array.getElem?_eq_getElem (by omega)]; rfl
theorem owns_cells {w w':World} {b N cap a n:Nat} {xs:List Value} {v:Value} (h:w.ownsRow 0 94 2 (.slice (some ⟨b,0,none⟩) N cap) N xs) (_hn:a+n≤N) (hw:w'.heap[b]?=(w.setCells b (2*a) (List.replicate (2*n) v)).heap[b]?):∃ ys,w'.ownsRow 0 94 2 (.slice (some ⟨b,0,none⟩) N cap) N ys:=by
 rcases h.2 with ⟨e,_⟩ | ⟨g,cap',cur,e,_,hg,hnc,hcm,hcs,_⟩
 ·cases e
 ·injection e with e1 e2 e3
  injection e1 with e1
  injection e1 with e1
  subst e1
  subst e3
  obtain ⟨C,hC,hz⟩:=setCells_root (List.replicate (2*n) v) (2*a) w cur hg
  refine ⟨C.toList.take (N*2),?_,.inr ⟨b,cap,C,rfl,Nat.zero_le _,by rw [hw]; exact hC,hnc,hcm,by omega,rfl⟩⟩
  rw [List.length_take,Array.length_toList]
  have:N*2≤cap*2:=Nat.mul_le_mul_right _ hnc
  omega
theorem WMem.grown {w W w1:World} {g:Nat} {bsv outv mv mv':Value} {bl:List Nat} {outs:List Value} {own:Own} {N:Nat} {xs news:List Value} (m:WMem w g bsv outv bl outs own) (hl:ListAt w outs own mv N xs)
  (hW:Below w.heap.size w W) (htw:TwoWay W mv w1 mv') (hrow:w1.ownsRow 0 94 2 mv' (N+1) (xs++news)) :
  ∃ own',WMem w1 g bsv outv bl outs own'∧ChgD own w w1 own'∧(∀ q t,own q=some t→own' q=some t)∧(∀ b,mv'.ownBlock=some b→own' b=some (9,0,0,0)∧EndsBy outs b (2*N)):=by
 have hxl:xs.length=N*2:=hl.row.1
 rcases htw with ⟨b,h1,h2,h3⟩ | ⟨h2,h3⟩
 ·have ht:=hl.tag b h1
  have hbl:=m.old b (by rw [ht]; simp)
  have hkeep:∀ q,own q≠none→q≠b→w1.heap[q]?=w.heap[q]?:=fun q hq hne=>by
   have hq':=m.old q hq
   rw [h3.block q (by have:=hW.size; omega) (by simpa using hne),hW.block q hq']
  have hn9:∀ q t,own q=some t→t≠(9,0,0,0)→q≠b:=fun q t hq hne e=>by rw [e,ht] at hq; exact hne (Option.some.inj hq).symm
  have hcell:∀ j,j < 2*N→w1.cell? ⟨b,j,none⟩=w.cell? ⟨b,j,none⟩:=fun j hj=>by
   have hx:xs[j]?=some (xs[j]'(by omega)):=List.getElem?_eq_getElem (by omega)
   have c1:=hl.row.cells h1 j _ hx
   have c2:=hrow.cells h2 j _ (by rw [List.getElem?_append_left (by omega)]; exact hx)
   have ea:(⟨b,0,none⟩:Addr).add j=⟨b,j,none⟩:=by unfold Addr.add; split<;>simp_all
   rw [ea] at c1 c2
   rw [c1,c2]
  refine ⟨own,⟨?_,m.tag,?_,?_,fun j v hj=>?_,fun q hq=>?_⟩,⟨h3.os.trans hW.os,h3.tape.trans hW.tape,h3.output.trans hW.output,Nat.le_trans hW.size h3.size,fun q hq hn=>?_,fun q hq=>.inl hq⟩,fun _ _ h=>h,fun b' hb'=>?_⟩
  ·rw [hkeep g (by rw [m.tag]; simp) (hn9 g _ m.tag (by intro c; cases c))]; exact m.root
  ·exact m.bs.frame (fun q hq=>hkeep q (by rw [hq]; simp) (hn9 q _ hq (by intro c; cases c))) (fun _ h=>h)
  ·exact m.orow.frame (fun q hq=>hkeep q (by rw [hq]; simp) (hn9 q _ hq (by intro c; cases c))) (fun _ h=>h)
  ·rcases m.out j v hj with h | ⟨b',off,n,cap,e1,e2,e3⟩
   ·exact .inl h
   ·refine .inr ⟨b',off,n,cap,e1,e2,fun i hi=>?_⟩
    by_cases e:b'=b
    ·subst e
     have:=hl.ends b' h1 j v hj off n cap e1.1
     rw [hcell (off+i) (by omega)]; exact e3 i hi
    ·exact (World.cell?_of_block (hkeep b' (by rw [e2]; simp) e)).trans (e3 i hi)
  ·have:=m.old q hq
   have:=hW.size
   have:=h3.size
   omega
  ·have hqb:q≠b:=fun e=>by rw [e,ht] at hn; cases hn
   rw [h3.block q (by have:=hW.size; omega) (by simpa using hqb),hW.block q hq]
  ·rw [h2] at hb'
   have e:b=b':=Option.some.inj hb'
   subst e
   exact ⟨ht,hl.ends b h1⟩
 ·have hkeep:∀ q,q < w.heap.size→w1.heap[q]?=w.heap[q]?:=fun q hq=>by
   rw [h3.block q (by have:=hW.size; omega) (by simp),hW.block q hq]
  have hz:w.heap.size≤w1.heap.size:=Nat.le_trans hW.size h3.size
  have m1:WMem w1 g bsv outv bl outs own:=m.frame (fun q hq=>hkeep q (m.old q hq)) hz
  have hHl:=ownsRow_lt hrow W.heap.size h2
  have hx:∀ q t,own q=some t→ownAdd own W.heap.size (9,0,0,0) q=some t:=fun q t hq=>by
   unfold ownAdd
   split
   ·rename_i e
    have h1:=m.old q (by rw [hq]; simp)
    have h2:=hW.size
    omega
   ·exact hq
  refine ⟨ownAdd own W.heap.size (9,0,0,0),m1.ext hx (fun q hq=>?_),⟨h3.os.trans hW.os,h3.tape.trans hW.tape,h3.output.trans hW.output,hz,fun q hq _=>hkeep q hq,fun q hq=>?_⟩,hx,fun b' hb'=>?_⟩
  ·unfold ownAdd at hq
   split at hq
   ·rename_i e; subst e; exact hHl
   ·exact m1.old q hq
  ·unfold ownAdd at hq
   split at hq
   ·rename_i e; subst e; exact .inr hW.size
   ·exact .inl hq
  ·rw [h2] at hb'
   have e:W.heap.size=b':=Option.some.inj hb'
   subst e
   refine ⟨by unfold ownAdd; simp,fun j v hj off n cap hv=>?_⟩
   rcases m.out j v hj with h | ⟨b,off',n',cap',e1,e2,_⟩
   ·rw [h] at hv; cases hv
   ·rw [e1.1] at hv
    injection hv with hv1
    injection hv1 with hv1
    injection hv1 with hv1
    have:=m.old b (by rw [e2]; simp)
    have:=hW.size
    omega
theorem Marked.mining {w0 w w':World} {own0 own:Own} {g b a n N cap:Nat} {bsv:Value} {bl:List Nat} {outs:List Value} {v:Value} {cap':Nat} {xs:List Value} (hk:Marked w (w.setCells b (2*a) (List.replicate (2*n) v)) g bsv bl outs own (.slice (some ⟨b,2*a,none⟩) n cap') w')
  (hrow:w.ownsRow 0 94 2 (.slice (some ⟨b,0,none⟩) N cap) N xs) (han:a+n=N) (htag:own b=some (9,0,0,0)) (hends:EndsBy outs b (2*a)) (hc0:ChgD own0 w0 w own) (hx0:∀ q t,own0 q=some t→own q=some t) :
  Mining w0 own0 g bsv bl (outs.length+1) N (.slice (some ⟨b,0,none⟩) N cap) w':=by
 obtain ⟨outv',own',m',hc,hx,hkeep⟩:=hk
 obtain ⟨ys,hys⟩:=owns_cells hrow (Nat.le_of_eq han) (hkeep b htag)
 refine ⟨outv',_,own',ys,m',by simp,⟨hys,fun q hq=>?_,fun q hq=>?_⟩,hc0.trans hc,fun q t hq=>hx q t (hx0 q t hq)⟩
 ·have e:b=q:=by simpa [Value.ownBlock] using hq
  subst e; exact hx b _ htag
 ·have e:b=q:=by simpa [Value.ownBlock] using hq
  subst e
  refine hends.snoc (by omega) (fun off k c hv=>?_)
  injection hv with hv1 hv2
  injection hv1 with hv1
  injection hv1 with _ hv1
  omega
theorem Marked.nil {w w':World} {own:Own} {g:Nat} {bsv:Value} {bl:List Nat} {outs:List Value} (hk:Marked w w g bsv bl outs own (.slice none 0 0) w'):Mining w own g bsv bl (outs.length+1) 0 (.slice none 0 0) w':=by
 obtain ⟨outv',own',m',hc,hx,_⟩:=hk
 exact ⟨outv',_,own',[],m',by simp,⟨World.ownsRow_nil _ _ _ _,fun q hq=>(by cases hq),fun q hq=>(by cases hq)⟩,hc,hx⟩
theorem mine_any (g N:Nat) (bsv outv lv:Value) (bl:List Nat) (outs xs:List Value) (own:Own) (w:World) (m:WMem w g bsv outv bl outs own) (hl:ListAt w outs own lv N xs) (h0:∀ b,lv.ownBlock=some b→EndsBy outs b 0) (hN:N≤16) (hlen:outs.length+10 < 8000000000000) :
  Calls Try.prog 21 #[.pointer (some ⟨g,0,none⟩),lv] w fun e w'=>e=.returned (.tuple #[])∧∃ N' mv,Mining w own g bsv bl (outs.length+4) N' mv w':=by
 have hmark:Calls Try.prog 49 #[.pointer (some ⟨g,0,none⟩),lv] w fun e w'=>e=.returned (.tuple #[])∧Mining w own g bsv bl (outs.length+1) N lv w':=by
  rcases hl.row.2 with ⟨e1,e2⟩ | ⟨b,cap,cur,e1,_⟩
  ·subst e1
   subst e2
   refine (mark_nil g bsv outv bl outs own w m (by omega)).mono ?_
   rintro e w' ⟨rfl,hk⟩
   exact ⟨rfl,hk.nil⟩
  ·subst e1
   have ht:=hl.tag b rfl
   refine (mark_any g b (2*0) N cap bsv outv bl outs own w ⟨m,ht,owns_there hl.row (a:=0) (n:=N) (by omega),h0 b rfl,by omega,by omega⟩).mono ?_
   rintro e w' ⟨rfl,hk⟩
   exact ⟨rfl,hk.mining hl.row (by omega) ht (h0 b rfl) ChgD.refl (fun _ _ h=>h)⟩
 obtain ⟨al,cl,hlv⟩:=ownsRow_slice hl.row
 subst hlv
 have HMK:Hid (type_of% hmark):=hmark
 obtain ⟨i0,hi0,hz0,hs0,hb0⟩:=info_all info94
 clear m hl h0 hmark
 go_enter Try.func21,Try.ntmps21
 go_wp2_with fail
 refine HMK.out.mono ?_
 rintro e w1 ⟨rfl,hm1⟩
 have II:Hid (Mining w own g bsv bl (outs.length+1) N (.slice al N cl) w1):=hm1
 clear hm1
 go_wp2_with fail
 go_loopw [4,5] (fun mv i wr=>∃ (t N':Nat) (q:Value),q=mv∧t≤3∧N'≤16+t∧i=.int .i64 t∧Hid (Mining w own g bsv bl (outs.length+1+t) N' q wr)) (fun _ i _=>3 - (intOf i).toNat)
 case atStart=>exact ⟨0,N,_,rfl,by omega,by omega,rfl,II⟩
 case round =>
  obtain ⟨t,N',mv,rfl,ht,hN',rfl,In⟩:=hrel
  obtain ⟨outv1,outs1,own1,xs1,m1,hl1,L1,hc1,hx1⟩:=In.out
  obtain ⟨am,cm,hmv⟩:=ownsRow_slice L1.row
  subst hmv
  by_cases hlt:t < 3
  ·have zt:(t:Int) < 3:=by omega
   have HM1:Hid (WMem wr g bsv outv1 bl outs1 own1):=m1
   have HL1:Hid (ListAt wr outs1 own1 (.slice am N' cm) N' xs1):=L1
   have HLN:Hid (outs1.length=outs.length+1+t):=hl1
   have HC1:Hid (ChgD own w wr own1):=hc1
   have HX1:Hid (type_of% hx1):=hx1
   clear m1 hl1 L1 hc1 hx1
   go_wp2_with (at_builtin; refine wpList_append_two rfl _ _ 44 rfl 94 i0 (.agg #[.int .i64 0,.int .i64 0]) 2 16 Try.underlying44 hi0 hz0 hs0 hb0 rfl (by decide) _ _ _ rfl (HL1.out.row.alloc _) ⟨wr.heap.size,0,none⟩ 1 1 [.int .i64 0,.int .i64 0] rfl rfl ?c1 ?c2 (by decide) ?c3 ?c4 ?_)
   case c1=>exact two_new wr _ _ 94 _ rfl
   case c2=>intro u hu; simp at hu; rcases hu with rfl | rfl<;>rfl
   case c3=>unfold maxLen; omega
   case c4=>omega
   intro v' w2 hrow2 htw
   have hA:Below wr.heap.size wr (wr.alloc (.cells #[.int .i64 0,.int .i64 0] 94)):=(Below.refl _ _).alloc (Nat.le_refl _) _
   obtain ⟨own2,m2,hc2,hx2,hb2⟩:=HM1.out.grown HL1.out hA htw hrow2
   obtain ⟨b2,c2,e2,hcc⟩:∃ b2 c2,v'=.slice (some ⟨b2,0,none⟩) (N'+1) c2∧N'+1≤c2:=by
    rcases hrow2.2 with ⟨_,e⟩ | ⟨q,cq,_,e,_,_,hq,_⟩
    ·omega
    ·exact ⟨q,cq,e,hq⟩
   subst e2
   obtain ⟨ht2,he2⟩:=hb2 b2 rfl
   have hth:=owns_there hrow2 (a:=N') (n:=1) (Nat.le_refl _)
   have hmk:=mark_any g b2 (2*N') 1 (c2 - N') bsv outv1 bl outs1 own2 w2 ⟨m2,ht2,hth,he2,by omega,by rw [HLN.out]; omega⟩
   have hfin:∀ w3,Marked w2 (w2.setCells b2 (2*N') (List.replicate (2*1) (.int .i64 (-1 - (outs1.length:Int))))) g bsv bl outs1 own2 (.slice (some ⟨b2,2*N',none⟩) 1 (c2 - N')) w3→Mining w own g bsv bl (outs.length+1+(t+1)) (N'+1) (.slice (some ⟨b2,0,none⟩) (N'+1) c2) w3:=fun w3 hk=>by
    have:=hk.mining hrow2 rfl ht2 he2 (HC1.out.trans hc2) (fun q u hq=>hx2 q u (HX1.out q u hq))
    rw [HLN.out] at this
    exact this
   rw [show 2*N'=N'*2 by omega] at hmk
   have HMK2:Hid (type_of% hmk):=hmk
   have HFN:Hid (type_of% hfin):=hfin
   rw [show 2*N'=N'*2 by omega] at HFN
   have zc:(N':Int)+1≤(c2:Int):=by omega
   clear hrow2 htw hA m2 hc2 hx2 hb2 ht2 he2 hth hmk hfin
   go_wp2_with fail
   refine HMK2.out.mono ?_
   rintro e w3 ⟨rfl,hk3⟩
   have I3:Hid (Mining w own g bsv bl (outs.length+1+(t+1)) (N'+1) (.slice (some ⟨b2,0,none⟩) (N'+1) c2) w3):=HFN.out w3 hk3
   clear hk3
   go_wp2
   go_roundw
   case rel=>exact ⟨t+1,N'+1,_,rfl,by omega,by omega,by go_num,I3⟩
   case measure=>simp [intOf]; omega
  ·have e:t=3:=by omega
   subst e
   go_wp2
   exact bodyPost_end (v:=.tuple #[]) (by simp [results,Try.results21,go_sem]) rfl ⟨rfl,N',_,In.out⟩
end Go.Proofs.Ytpbcplfpjcacfaa
namespace Go.Proofs.Ytpbcplfpjcacfaa
open Go.RowKit
set_option maxRecDepth 100000
set_option maxHeartbeats 8000000
def trOut (t:Tr):Prop:=∀ n,(t.ses n).out.items.length≤16
def POut (s:PS):Prop:=∀ q,trOut (s.t q)
theorem trOut.setS {n:Nat} {t:Tr} (h:trOut t) {x:Ses} (hx:x.out.items.length≤16):trOut (t.setS n x):=by
 intro m
 show (upd t.ses n x m).out.items.length≤16
 by_cases e:m=n
 ·subst e; rw [upd_same]; exact hx
 ·rw [upd_ne _ _ e]; exact h m
theorem trOut.endT {t:Tr} (h:trOut t) (n:Nat):trOut (t.endT n):=fun m=>(h.setS (n:=n) (x:=ses0) (by simp [ses0]):trOut (t.setS n ses0)) m
theorem trOut.forceT {t:Tr} (h:trOut t) (n:Nat) (w:Int):trOut (t.forceT n w):=(h.endT n).setS (by simp [ses0])
theorem trOut.preTo {t:Tr} (h:trOut t) (r:Lk):∀ k,trOut (t.preTo r k)
 | 0=>h
 | k+1=>by
  unfold Tr.preTo
  split
  ·exact (trOut.preTo h r k).forceT k 1
  ·exact trOut.preTo h r k
theorem trOut.leaveT {t:Tr} (h:trOut t) (n:Nat):trOut (t.leaveT n):=fun m=>(h.setS (n:=n) (x:={ t.ses n with req:=stp0 }) (h n):trOut (t.setS n _)) m
theorem trOut.joinT {t:Tr} (h:trOut t) (n:Nat) (x:Stp):trOut (t.joinT n x):=fun m=>(h.setS (n:=n) (x:={ t.ses n with req:=x }) (h n):trOut (t.setS n _)) m
theorem POut.setT {s:PS} (h:POut s) {q:Nat} {T:Tr} (hT:trOut T):POut (s.setT q T):=by
 intro q'
 show trOut (upd s.t q T q')
 by_cases e:q'=q
 ·subst e; rw [upd_same]; exact hT
 ·rw [upd_ne _ _ e]; exact h q'
theorem POut.setS {s:PS} (h:POut s) {q n:Nat} {x:Ses} (hx:x.out.items.length≤16):POut (s.setS q n x):=h.setT ((h q).setS hx)
theorem POut.preT {s:PS} (h:POut s) (r:Lk):POut (s.preT r):=by
 intro q
 show trOut (if plOf r.at_ < q∧q < 32 then (s.t q).preTo r 4 else s.t q)
 split
 ·exact (h q).preTo r 4
 ·exact h q
theorem POut.lockT {s:PS} (h:POut s) (q n:Nat) (x:Stp):POut (s.lockT q n x):=by
 have hA:POut ((s.setT q ((s.t q).leaveT n)).addLock q n (lkOf x)):=by
  rw [addLock_leave]
  exact h.setT (((h q).leaveT n).setS ((h q).leaveT n n))
 unfold PS.lockT
 split
 ·exact hA.preT _
 ·exact hA
theorem POut.grantT {s:PS} (h:POut s) (q n:Nat) (x:Stp):POut (s.grantT q n x).1∧(s.grantT q n x).2.items.length≤16:=by
 unfold PS.grantT PS.putT
 split
 ·split
  ·exact ⟨h,by simp⟩
  ·exact ⟨h.setS (h q n),by simp⟩
 ·split
  ·exact ⟨h.setS (h q n),by simp⟩
  ·exact ⟨h,listTo_len _ _ _ 16⟩
theorem POut.admitT {s:PS} (h:POut s) (q n:Nat):POut (s.admitT q n).1∧(s.admitT q n).2.items.length≤16:=(h.lockT q n _).grantT q n _
theorem POut.settle1 {s:PS} (h:POut s) (q a n:Nat):POut (s.settle1 q a n):=by
 unfold PS.settle1
 split
 ·exact (h.admitT q n).1.setS (h.admitT q n).2
 ·exact h
theorem POut.settleL {q a:Nat}:∀ (l:List Nat) (s:PS),POut s→POut (PS.settleL q a s l)
 | [],_,h=>h
 | n :: l,_,h=>POut.settleL l _ (h.settle1 q a n)
theorem POut.settleQ {s:PS} (h:POut s) (q a:Nat):POut (s.settleQ q a):=POut.settleL _ s h
theorem POut.settleF {s:PS} (h:POut s) (a:Nat):∀ k,POut (s.settleF a k)
 | 0=>h
 | k+1=>(POut.settleF h a k).settleQ _ a
theorem POut.settleTo {s:PS} (h:POut s):∀ a,POut (s.settleTo a)
 | 0=>h
 | a+1=>(POut.settleTo h a).settleF a _
theorem POut.settleT {s:PS} (h:POut s):POut s.settleT:=h.settleTo 32
theorem POut.finishT {s:PS} (h:POut s) (q n:Nat):POut (s.finishT q n):=by
 unfold PS.finishT
 exact (h.setT ((h q).endT n)).settleT
theorem POut.ringsN {q n:Nat}:∀ (k:Nat) (s:PS),POut s→POut (PS.ringsN q n k s)
 | 0,_,h=>h
 | k+1,s,h=>by
  cases hy:(s.t q).youngest n with
  | none=>rw [ringsN_no hy]; exact h
  | some y=>rw [ringsN_yes hy]; exact POut.ringsN k _ (h.setT ((h q).forceT y 2)).settleT
theorem POut.askT {s:PS} (h:POut s) (q n:Nat) (x:Stp):POut (s.askT q n x).1∧(s.askT q n x).2.items.length≤16:=by
 unfold PS.askT
 split
 ·exact ⟨h,by simp⟩
 ·split
  ·exact h.grantT q n x
  ·split
   ·exact ⟨h,by simp⟩
   ·have hj:POut (s.setT q ((s.t q).joinT n x)):=h.setT ((h q).joinT n x)
    generalize s.setT q ((s.t q).joinT n x)=s1 at *
    split
    ·unfold PS.ringsT
     have hr:=POut.ringsN (q:=q) (n:=n) 4 s1 hj
     generalize PS.ringsN q n 4 s1=s2 at *
     split
     ·exact ⟨hr,by simp⟩
     ·exact ⟨hr.setS (hr q n),by simp⟩
    ·dsimp only
     exact ⟨(hj.admitT q n).1.settleT,(hj.admitT q n).2⟩
theorem POut.actT {s:PS} (h:POut s) (q n:Nat) (x:Stp):POut (s.actT q n x).1∧(s.actT q n x).2.items.length≤16:=by
 unfold PS.actT
 split
 ·exact ⟨h.setS (h q n),by simp⟩
 ·split
  ·unfold PS.pollT
   split
   ·exact ⟨h,by simp⟩
   ·split
    ·exact ⟨h.setS (by simp),h q n⟩
    ·exact ⟨h,by simp⟩
  ·split
   ·unfold PS.abortT
    split
    ·dsimp only
     exact ⟨h.finishT q n,by simp⟩
    ·exact ⟨h,by simp⟩
   ·split
    ·exact ⟨h,by simp⟩
    ·split
     ·unfold PS.beginT
      split
      ·exact ⟨h,by simp⟩
      ·split
       ·exact ⟨h,by simp⟩
       ·exact ⟨h.setT (fun m=>h q m),by simp⟩
     ·split
      ·exact ⟨h,by simp⟩
      ·split
       ·unfold PS.commitT
        dsimp only
        have hi:POut (s.setI q (((s.t q).ses n).wr.over (s.t q).items)):=h.setT (fun m=>h q m)
        exact ⟨hi.finishT q n,by simp⟩
       ·exact h.askT q n x
theorem POut.doT {s:PS} (h:POut s) (x:Stp):POut (s.doT x).1∧(s.doT x).2.items.length≤16:=by
 unfold PS.doT
 split
 ·exact ⟨h,by simp⟩
 ·exact h.actT _ _ x
theorem pout0 (k v c:Int):POut (ps0 k v c):=fun _ _=>by
 show (0:Nat)≤16
 omega
end Go.Proofs.Ytpbcplfpjcacfaa
