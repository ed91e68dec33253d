import Derived.Test.YtpbcplfpjcacfaaF02
namespace Go.Proofs.Ytpbcplfpjcacfaa
open Go.RowKit
set_option maxRecDepth 100000
set_option maxHeartbeats 8000000
theorem len_split {α:Type} (p:α→Bool):∀ l:List α,l.length=(l.filter p).length+(l.filter (fun x=>!p x)).length
 | []=>rfl
 | a :: l=>by
  have:=len_split p l
  cases h:p a<;>simp [h,this]<;>omega
theorem len_classes {α:Type} (f:α→Nat) (m:Nat):∀ (n:Nat) (l:List α),(∀ x∈l,f x < n)→(∀ i,i < n→(l.filter (fun x=>f x == i)).length≤m)→l.length≤n*m
 | 0,[],_,_=>by simp
 | 0,a :: l,h,_=>by have:=h a (by simp); omega
 | n+1,l,h,hc=>by
  have h1:=len_classes f m n (l.filter (fun x=>!(f x == n))) (fun x hx=>by
   have h1:=List.mem_filter.1 hx
   have:=h x h1.1
   have h2:=h1.2
   simp at h2
   omega) (fun i hi=>by
   rw [List.filter_filter]
   refine Nat.le_trans ?_ (hc i (by omega))
   rw [show (fun x=>(f x == i && !(f x == n)))=(fun x=>f x == i) from ?_]
   ·exact Nat.le_refl _
   ·funext x
    by_cases e:f x=i
    ·simp [e]; omega
    ·simp [e])
  have h2:=hc n (by omega)
  have h3:=len_split (fun x=>f x == n) l
  rw [h3,Nat.add_mul]; omega
theorem nodup_len (l:List Nat) (n:Nat) (hn:l.Nodup) (hb:∀ x∈l,x < n):l.length≤n:=by
 have:=len_classes (fun x:Nat=>x) 1 n l hb (fun i _=>by
  have h1:(l.filter (fun x=>x == i)).Nodup:=hn.sublist List.filter_sublist
  have h2:∀ x∈l.filter (fun x=>x == i),x=i:=fun x hx=>by simpa using (List.mem_filter.1 hx).2
  generalize l.filter (fun x=>x == i)=l' at h1 h2
  match l',h1,h2 with
  | [],_,_=>simp
  | [a],_,_=>simp
  | a :: b :: l,h1,h2 =>
   have ha:=h2 a (by simp)
   have hb:=h2 b (by simp)
   simp [ha,hb] at h1)
 omega
def Wh.ok (x:Wh):Prop:=Lab.ok x.lab∧0≤x.2.2∧x.2.2≤3
def labCode (a:Lab):Nat:=(8*a.1+a.2).toNat
theorem labCode_inj {a b:Lab} (ha:a.ok) (hb:b.ok) (h:labCode a=labCode b):a=b:=by
 unfold labCode at h; obtain ⟨h1,h2,h3,h4⟩:=ha; obtain ⟨k1,k2,k3,k4⟩:=hb
 ext<;>omega
def Stp.asks (x:Stp) (c:Rc):Prop:=x.who=c.who∧x.at_=c.at_∧x.Good∧c.lo=x.key∧c.hi=(if x.op=3 then x.to_ else x.key)∧(c.write=true↔x.op=4∨x.op=5)∧(c.write=true→x.at_=x.who.lab)
structure RS.Fit (N:Nat) (st:RS):Prop where
 uniq:st.uniq
 who:∀ t∈st.txns,t.who.ok
 backed:∀ c∈st.recs,∃ t∈st.txns,t.who=c.who
 recAt:∀ c∈st.recs,c.at_.ok
 recN:∀ a,(st.recs.filter (fun c=>labCode c.who.lab == a)).length≤32
 waits:∀ c∈st.recs,c.waits=true→∀ t∈st.txns,t.who=c.who→t.step.asks c
 waitsU:((st.recs.filter (·.waits)).map (·.who)).Nodup
 plcs:∀ p∈st.places,p.at_.ok∧0≤p.key∧p.key≤15
 plcN:(st.places.map (fun p=>(p.at_,p.key))).Nodup
 olds:∀ t∈st.txns,∀ o∈t.olds,0≤o.1∧o.1≤15
 oldsN:∀ t∈st.txns,(t.olds.map (·.1)).Nodup
 endW:∀ e∈st.ended,e.1.ok
 endN:(st.ended.map (·.1)).Nodup
 endT:∀ e∈st.ended,∀ t∈st.txns,t.who≠e.1
 puts:∀ t∈st.txns,t.puts.length≤N∧((∃ c∈st.recs,c.who=t.who∧c.waits=true)→t.puts.length+1≤N)
 begun:0≤st.begun∧st.begun≤N
 clock:0≤st.clock∧st.clock≤N
namespace RS.Fit
variable {N:Nat} {st:RS}
theorem txnsN (F:st.Fit N):(st.txns.map (·.who)).Nodup:=by
 unfold List.Nodup
 rw [List.pairwise_map,List.pairwise_iff_getElem]
 intro i j hi hj hij e
 have:=F.uniq i j _ _ (List.getElem?_eq_getElem hi) (List.getElem?_eq_getElem hj) e
 omega
theorem recW (F:st.Fit N) {c:Rc} (hc:c∈st.recs):c.who.ok:=by
 obtain ⟨t,ht,e⟩:=F.backed c hc
 rw [← e]; exact F.who t ht
theorem liveAt (F:st.Fit N) {x:Wh} (h:∃ t∈st.txns,t.who=x):∃ (n:Nat) (t:Tx),st.txns[n]?=some t∧t.who=x∧st.live x=(n:Int):=by
 obtain ⟨t,ht,e⟩:=h
 obtain ⟨n,hn⟩:=List.mem_iff_getElem?.1 ht
 exact ⟨n,t,hn,e,live_at hn e F.uniq⟩
end RS.Fit
theorem uniq_of {l:List Tx} (h:(l.map (·.who)).Nodup):∀ (m n:Nat) (t u:Tx),l[m]?=some t→l[n]?=some u→t.who=u.who→m=n:=by
 intro m n t u hm hn e
 unfold List.Nodup at h
 rw [List.pairwise_map,List.pairwise_iff_getElem] at h
 obtain ⟨hm1,hm2⟩:=List.getElem?_eq_some_iff.1 hm
 obtain ⟨hn1,hn2⟩:=List.getElem?_eq_some_iff.1 hn
 rcases Nat.lt_trichotomy m n with hlt | rfl | hlt
 ·exact absurd (by rw [hm2,hn2]; exact e) (h m n hm1 hn1 hlt)
 ·rfl
 ·exact absurd (by rw [hm2,hn2]; exact e.symm) (h n m hn1 hm1 hlt)
theorem setIx_keys (a:Lab) (key v:Int):∀ l:List Plc,(setIx a key v l).map (fun p=>(p.at_,p.key))=if (a,key)∈l.map (fun p=>(p.at_,p.key)) then l.map (fun p=>(p.at_,p.key)) else l.map (fun p=>(p.at_,p.key))++[(a,key)]
 | []=>by simp [setIx]
 | p :: l=>by
  rw [setIx]
  split
  ·rename_i h; simp [h.1,h.2]
  ·rename_i h
   rw [List.map_cons,setIx_keys a key v l]
   have h':¬ (a,key)=(p.at_,p.key):=fun e=>h ⟨(Prod.ext_iff.1 e).1.symm,(Prod.ext_iff.1 e).2.symm⟩
   by_cases hm:(a,key)∈l.map (fun p=>(p.at_,p.key))
   ·rw [if_pos hm,if_pos (by rw [List.map_cons]; exact List.mem_cons_of_mem _ hm),List.map_cons]
   ·rw [if_neg hm,if_neg (by rw [List.map_cons,List.mem_cons]; rintro (h | h); exact h' h; exact hm h),List.map_cons,List.cons_append]
def PlcOk (l:List Plc):Prop:=(∀ p∈l,p.at_.ok∧0≤p.key∧p.key≤15)∧(l.map (fun p=>(p.at_,p.key))).Nodup
theorem PlcOk.set {l:List Plc} (h:PlcOk l) {a:Lab} {key:Int} (v:Int) (ha:a.ok) (h0:0≤key) (h1:key≤15):PlcOk (setIx a key v l):=by
 have hk:=setIx_keys a key v l
 constructor
 ·intro p hp
  have hm:(p.at_,p.key)∈(setIx a key v l).map (fun p=>(p.at_,p.key)):=List.mem_map.2 ⟨p,hp,rfl⟩
  have hor:(p.at_,p.key)∈l.map (fun p=>(p.at_,p.key))∨(p.at_,p.key)=(a,key):=by
   rw [hk] at hm
   split at hm
   ·exact .inl hm
   ·rcases List.mem_append.1 hm with h | h
    ·exact .inl h
    ·exact .inr (by simpa using h)
  rcases hor with h' | h'
  ·obtain ⟨q,hq,e⟩:=List.mem_map.1 h'
   obtain ⟨e1,e2⟩:=Prod.ext_iff.1 e
   simp only at e1 e2
   rw [← e1,← e2]; exact h.1 q hq
  ·obtain ⟨e1,e2⟩:=Prod.ext_iff.1 h'
   simp only at e1 e2
   rw [e1,e2]; exact ⟨ha,h0,h1⟩
 ·rw [hk]
  split
  ·exact h.2
  ·rename_i hn
   refine List.nodup_append.2 ⟨h.2,by simp,?_⟩
   intro x hx y hy e
   simp at hy
   subst hy
   subst e
   exact hn hx
theorem RS.Fit.ofPlc {N:Nat} {st:RS} (F:st.Fit N) {l:List Plc} (h:PlcOk l):({ st with places:=l }:RS).Fit N :=
 { F with plcs:=h.1,plcN:=h.2 }
theorem RS.Fit.plcOk {N:Nat} {st:RS} (F:st.Fit N):PlcOk st.places:=⟨F.plcs,F.plcN⟩
theorem RS.Fit.setP {N:Nat} {st:RS} (F:st.Fit N) {a:Lab} {key:Int} (v:Int) (ha:a.ok) (h0:0≤key) (h1:key≤15):(st.setP a key v).Fit N:=F.ofPlc (F.plcOk.set v ha h0 h1)
theorem RS.Fit.putBack {N:Nat} {a:Lab} (ha:a.ok):∀ (l:List (Int × Int)) (st:RS),st.Fit N→(∀ o∈l,0≤o.1∧o.1≤15)→(backTo a l st).Fit N
 | [],_,F,_=>F
 | o :: l,st,F,h=>RS.Fit.putBack ha l (st.setP a o.1 o.2) (F.setP o.2 ha (h o (by simp)).1 (h o (by simp)).2) (fun q hq=>h q (by simp [hq]))
theorem offB_true {x:Wh} {c:Rc} (h:offB x c=true):c.who≠x:=by
 unfold offB sameW at h
 intro e
 subst e
 simp at h
theorem offB_iff (x:Wh) (c:Rc):offB x c=true↔c.who≠x:=by
 refine ⟨offB_true,fun h=>?_⟩
 unfold offB sameW
 simp only [Bool.not_eq_true',decide_eq_false_iff_not]
 rintro ⟨h1,h2,h3⟩
 exact h (Prod.ext h1 (Prod.ext h2 h3))
theorem RS.Fit.ended {N:Nat} {st:RS} (F:st.Fit N) {x:Wh} {n:Nat} {t:Tx} (hn:st.txns[n]?=some t) (ht:t.who=x) (back:Bool) (why:Int):(st.endT x back why n t).Fit N:=by
 have htm:t∈st.txns:=List.mem_of_getElem? hn
 have hxo:x.ok:=ht ▸ F.who t htm
 have hpl:PlcOk (if back then backTo x.lab t.olds.reverse st else st).places:=by
  split
  ·exact (RS.Fit.putBack hxo.1 t.olds.reverse st F (fun o ho=>F.olds t htm o (by simpa using ho))).plcOk
  ·exact F.plcOk
 have hbt:∀ P:RS→Prop,(∀ l,P { st with places:=l })→P (if back then backTo x.lab t.olds.reverse st else st):=by
  intro P h
  split
  ·rw [backTo_same]; exact h _
  ·exact h st.places
 have hbe:(if back then backTo x.lab t.olds.reverse st else st).begun=st.begun:=hbt (fun s=>s.begun=st.begun) (fun _=>rfl)
 have hcl:(if back then backTo x.lab t.olds.reverse st else st).clock=st.clock:=hbt (fun s=>s.clock=st.clock) (fun _=>rfl)
 have htx:∀ u,u∈st.txns.eraseIdx n→u∈st.txns:=fun u hu=>List.mem_of_mem_eraseIdx hu
 have htx':∀ u∈st.txns.eraseIdx n,u.who≠x:=by
  intro u hu e
  obtain ⟨m,hm⟩:=List.mem_iff_getElem?.1 hu
  rw [List.getElem?_eraseIdx] at hm
  split at hm
  ·have:=F.uniq m n u t hm hn (by rw [e,ht]); omega
  ·have:=F.uniq (m+1) n u t hm hn (by rw [e,ht]); omega
 have hrc:∀ c,c∈st.recs.filter (offB x)→c∈st.recs∧c.who≠x:=fun c hc=>⟨(List.mem_filter.1 hc).1,offB_true (List.mem_filter.1 hc).2⟩
 refine { uniq:=?_,who:=fun u hu=>F.who u (htx u hu),backed:=?_,recAt:=fun c hc=>F.recAt c (hrc c hc).1,recN:=?_,waits:=fun c hc hw u hu e=>F.waits c (hrc c hc).1 hw u (htx u hu) e,waitsU:=?_,plcs:=hpl.1,plcN:=hpl.2,olds:=fun u hu=>F.olds u (htx u hu),oldsN:=fun u hu=>F.oldsN u (htx u hu),endW:=?_,endN:=?_,endT:=?_,puts:=?_,begun:=?_,clock:=?_ }
 ·exact uniq_of (F.txnsN.sublist ((List.eraseIdx_sublist _ _).map _))
 ·intro c hc
  obtain ⟨h1,h2⟩:=hrc c hc
  obtain ⟨u,hu,e⟩:=F.backed c h1
  refine ⟨u,?_,e⟩
  obtain ⟨m,hm⟩:=List.mem_iff_getElem?.1 hu
  have hmn:m≠n:=fun e2=>by
   subst e2
   rw [hn] at hm
   obtain rfl:=Option.some.inj hm
   exact h2 (by rw [← e,ht])
  rw [List.mem_iff_getElem?]
  rcases Nat.lt_or_ge m n with hlt | hge
  ·exact ⟨m,by show (st.txns.eraseIdx n)[m]?=_; rw [List.getElem?_eraseIdx,if_pos hlt]; exact hm⟩
  ·exact ⟨m - 1,by show (st.txns.eraseIdx n)[m - 1]?=_; rw [List.getElem?_eraseIdx,if_neg (by omega),show m - 1+1=m by omega]; exact hm⟩
 ·intro a
  exact Nat.le_trans (List.Sublist.length_le ((List.filter_sublist (l:=st.recs) (p:=offB x)).filter _)) (F.recN a)
 ·exact F.waitsU.sublist (((List.filter_sublist (l:=st.recs) (p:=offB x)).filter _).map _)
 ·intro e he
  change e∈(if 0 < why then st.ended++[(x,why)] else st.ended) at he
  split at he
  ·rcases List.mem_append.1 he with h | h
   ·exact F.endW e h
   ·simp at h; subst h; exact hxo
  ·exact F.endW e he
 ·show ((if 0 < why then st.ended++[(x,why)] else st.ended).map (·.1)).Nodup
  split
  ·rw [List.map_append]
   refine List.nodup_append.2 ⟨F.endN,by simp,?_⟩
   intro y hy z hz e
   simp at hz
   obtain ⟨q,hq,rfl⟩:=List.mem_map.1 hy
   exact F.endT q hq t htm (by rw [ht,← hz,← e])
  ·exact F.endN
 ·intro e he u hu
  change e∈(if 0 < why then st.ended++[(x,why)] else st.ended) at he
  split at he
  ·rcases List.mem_append.1 he with h | h
   ·exact F.endT e h u (htx u hu)
   ·simp at h; subst h; exact htx' u hu
  ·exact F.endT e he u (htx u hu)
 ·intro u hu
  obtain ⟨h1,h2⟩:=F.puts u (htx u hu)
  exact ⟨h1,fun ⟨c,hc,h3⟩=>h2 ⟨c,(hrc c hc).1,h3⟩⟩
 ·show 0≤RS.begun _∧RS.begun _≤_
  unfold RS.endT
  simp only [hbe]; exact F.begun
 ·show 0≤RS.clock _∧RS.clock _≤_
  unfold RS.endT
  simp only [hcl]; exact F.clock
theorem RS.Fit.setTxn {N:Nat} {st:RS} (F:st.Fit N) {n:Nat} {t u:Tx} (hn:st.txns[n]?=some t) (hw:u.who=t.who) (ho:∀ o∈u.olds,0≤o.1∧o.1≤15) (hon:(u.olds.map (·.1)).Nodup)
  (hs:∀ c∈st.recs,c.waits=true→u.who=c.who→u.step.asks c) (hp:u.puts.length≤N∧((∃ c∈st.recs,c.who=u.who∧c.waits=true)→u.puts.length+1≤N)):({ st with txns:=st.txns.set n u }:RS).Fit N:=by
 have htm:t∈st.txns:=List.mem_of_getElem? hn
 have hmem:∀ y,y∈st.txns.set n u→y∈st.txns∨y=u:=fun y hy=>List.mem_or_eq_of_mem_set hy
 refine { F with uniq:=uniq_set hn hw F.uniq,who:=?_,backed:=?_,waits:=?_,olds:=?_,oldsN:=?_,endT:=?_,puts:=?_ }
 ·intro y hy
  rcases hmem y hy with h | rfl
  ·exact F.who y h
  ·rw [hw]; exact F.who t htm
 ·intro c hc
  obtain ⟨y,hy,e⟩:=F.backed c hc
  obtain ⟨m,hm⟩:=List.mem_iff_getElem?.1 hy
  by_cases hmn:n=m
  ·subst hmn
   rw [hn] at hm
   obtain rfl:=Option.some.inj hm
   exact ⟨u,List.mem_iff_getElem?.2 ⟨n,by show (st.txns.set n u)[n]?=_; rw [List.getElem?_set_self (List.getElem?_eq_some_iff.1 hn).1]⟩,by rw [hw,e]⟩
  ·exact ⟨y,List.mem_iff_getElem?.2 ⟨m,by show (st.txns.set n u)[m]?=_; rw [List.getElem?_set_ne hmn]; exact hm⟩,e⟩
 ·intro c hc hcw y hy e
  rcases hmem y hy with h | rfl
  ·exact F.waits c hc hcw y h e
  ·exact hs c hc hcw e
 ·intro y hy
  rcases hmem y hy with h | rfl
  ·exact F.olds y h
  ·exact ho
 ·intro y hy
  rcases hmem y hy with h | rfl
  ·exact F.oldsN y h
  ·exact hon
 ·intro e he y hy
  rcases hmem y hy with h | rfl
  ·exact F.endT e he y h
  ·rw [hw]; exact F.endT e he t htm
 ·intro y hy
  rcases hmem y hy with h | rfl
  ·exact F.puts y h
  ·exact hp
theorem known_not {l:List (Int × Int)} {key:Int} (h:¬ knownB l key=true):key ∉ l.map (·.1):=by
 intro hm
 obtain ⟨o,ho,e⟩:=List.mem_map.1 hm
 exact h (by unfold knownB; rw [List.any_eq_true]; exact ⟨o,ho,by simp [e]⟩)
theorem RS.Fit.keepOld {N:Nat} {st:RS} (F:st.Fit N) {n:Nat} {t:Tx} (hn:st.txns[n]?=some t) {key:Int} (h0:0≤key) (h1:key≤15):(st.keepOld n t key).Fit N:=by
 have htm:t∈st.txns:=List.mem_of_getElem? hn
 unfold RS.keepOld
 split
 ·exact F
 ·rename_i hk
  refine F.setTxn hn (u:={ t with olds:=t.olds++[(key,st.val t.who.lab key)] }) rfl ?_ ?_ (fun c hc hw e=>F.waits c hc hw t htm e) (F.puts t htm)
  ·intro o ho
   rcases List.mem_append.1 ho with h | h
   ·exact F.olds t htm o h
   ·simp at h; subst h; exact ⟨h0,h1⟩
  ·rw [List.map_append]
   refine List.nodup_append.2 ⟨F.oldsN t htm,by simp,?_⟩
   intro y hy z hz e
   simp at hz
   subst hz
   subst e
   exact known_not hk hy
theorem RS.Fit.writeT {N:Nat} {st:RS} (F:st.Fit N) {n:Nat} {t:Tx} (hn:st.txns[n]?=some t) {key:Int} (v:Int) (h0:0≤key) (h1:key≤15):(st.writeT n t key v).Fit N:=by
 unfold RS.writeT
 exact (F.keepOld hn h0 h1).setP v (F.who t (List.mem_of_getElem? hn)).1 h0 h1
theorem keepOld_same (st:RS) (n:Nat) (t:Tx) (key:Int):(st.keepOld n t key).recs=st.recs∧(st.keepOld n t key).ended=st.ended∧(st.keepOld n t key).begun=st.begun∧(st.keepOld n t key).clock=st.clock∧(st.keepOld n t key).k=st.k∧(st.keepOld n t key).v=st.v∧(st.keepOld n t key).c=st.c:=by
 unfold RS.keepOld; split<;>simp
theorem RS.Fit.putT {N:Nat} {st:RS} (F:st.Fit N) {n:Nat} {t:Tx} (hn:st.txns[n]?=some t) {key:Int} (v:Int) (h0:0≤key) (h1:key≤15) (hp:t.puts.length+1≤N) (hw:¬ ∃ c∈st.recs,c.who=t.who∧c.waits=true):(st.putT n t key v).Fit N:=by
 have F1:=F.writeT hn v h0 h1
 have hn1:=writeT_at hn key v
 have hr:(st.writeT n t key v).recs=st.recs:=(keepOld_same st n t key).1
 have hm1:t.wrote st key∈(st.writeT n t key v).txns:=List.mem_of_getElem? hn1
 have hw1:=wrote_who st t key
 unfold RS.putT
 refine F1.setTxn hn1 (u:={ t.wrote st key with puts:=t.puts++[key] }) rfl (F1.olds (t.wrote st key) hm1) (F1.oldsN (t.wrote st key) hm1) (fun c hc hcw e=>F1.waits c hc hcw (t.wrote st key) hm1 e) ⟨?_,?_⟩
 ·simpa using hp
 ·rintro ⟨c,hc,h2,h3⟩
  rw [hr] at hc
  exact absurd ⟨c,hc,by rw [h2]; exact hw1,h3⟩ hw
theorem RS.Fit.job {N:Nat} {st:RS} (F:st.Fit N) {n:Nat} {t:Tx} {x:Stp} (hn:st.txns[n]?=some t) (hx:x.Good) (hp:t.puts.length+1≤N) (hw:¬ ∃ c∈st.recs,c.who=t.who∧c.waits=true):(st.job n t x).1.Fit N:=by
 unfold RS.job
 split
 ·exact F.writeT hn _ hx.key.1 hx.key.2
 ·split
  ·split
   ·exact F
   ·exact F.putT hn _ hx.key.1 hx.key.2 hp hw
  ·exact F
theorem job_same (st:RS) (n:Nat) (t:Tx) (x:Stp):(st.job n t x).1.recs=st.recs∧(st.job n t x).1.ended=st.ended∧(st.job n t x).1.begun=st.begun∧(st.job n t x).1.clock=st.clock∧(st.job n t x).1.k=st.k∧(st.job n t x).1.v=st.v∧(st.job n t x).1.c=st.c:=by
 have h:=keepOld_same st n t x.key
 unfold RS.job
 split
 ·exact h
 ·split
  ·split
   ·simp
   ·exact h
  ·simp
theorem job_at {st:RS} {n:Nat} {t:Tx} {x:Stp} (hn:st.txns[n]?=some t):∃ u,(st.job n t x).1.txns=st.txns.set n u∧u.who=t.who∧u.nth=t.nth∧u.step=t.step∧u.ready=t.ready∧u.told=t.told:=by
 have hs:st.txns=st.txns.set n t:=by
  obtain ⟨h1,h2⟩:=List.getElem?_eq_some_iff.1 hn
  rw [← h2,List.set_getElem_self]
 have hw:∀ key,(t.wrote st key).nth=t.nth∧(t.wrote st key).step=t.step∧(t.wrote st key).ready=t.ready∧(t.wrote st key).told=t.told:=by
  intro key; unfold Tx.wrote; split<;>simp
 unfold RS.job
 split
 ·exact ⟨t.wrote st x.key,writeT_txns hn _ _,wrote_who _ _ _,hw _⟩
 ·split
  ·split
   ·exact ⟨t,hs,rfl,rfl,rfl,rfl,rfl⟩
   ·refine ⟨{ t.wrote st x.key with puts:=t.puts++[x.key] },?_,wrote_who _ _ _,hw _⟩
    show ((st.writeT n t x.key x.value).txns.set n _)=_
    rw [writeT_txns hn,List.set_set]
  ·exact ⟨t,hs,rfl,rfl,rfl,rfl,rfl⟩
def RS.txOf (st:RS) (x:Wh):Option Tx:=st.txns.find? (fun t=>t.who == x)
def RS.ends (st:RS) (x:Wh) (back:Bool) (why:Int):RS:=match st.txOf x with
 | none=>st
 | some t=>{ (if back then backTo x.lab t.olds.reverse st else st) with txns:=st.txns.filter (fun t=>t.who != x),recs:=st.recs.filter (fun c=>c.who != x),ended:=if 0 < why then st.ended++[(x,why)] else st.ended }
theorem offB_eq (x:Wh):offB x=fun c=>c.who != x:=by
 funext c
 have:=offB_iff x c
 cases h:offB x c
 ·rw [h] at this; simp at this; simp [this]
 ·rw [h] at this; simp at this; simp [this]
theorem txOf_at {st:RS} {x:Wh} {n:Nat} {t:Tx} (hu:st.uniq) (hn:st.txns[n]?=some t) (ht:t.who=x):st.txOf x=some t:=by
 unfold RS.txOf
 cases h:st.txns.find? (fun t=>t.who == x) with
 | none=>exact absurd (List.find?_eq_none.1 h t (List.mem_of_getElem? hn)) (by simp [ht])
 | some u =>
  have hw:u.who=x:=by simpa using List.find?_some h
  obtain ⟨m,hm⟩:=List.mem_iff_getElem?.1 (List.mem_of_find?_eq_some h)
  have:=hu m n u t hm hn (by rw [hw,ht])
  subst this
  rw [hm] at hn; exact hn
theorem erase_filter {l:List Tx} {n:Nat} {t:Tx} {x:Wh} (hu:∀ (m n:Nat) (t u:Tx),l[m]?=some t→l[n]?=some u→t.who=u.who→m=n) (hn:l[n]?=some t) (ht:t.who=x):l.eraseIdx n=l.filter (fun t=>t.who != x):=by
 obtain ⟨hl,he⟩:=List.getElem?_eq_some_iff.1 hn
 have hd:l=l.take n++t :: l.drop (n+1):=by rw [← drop_at hn,List.take_append_drop]
 rw [List.eraseIdx_eq_take_drop_succ]
 conv=>rhs; rw [hd]
 rw [List.filter_append,List.filter_cons_of_neg (by simp [ht])]
 congr 1
 ·refine (List.filter_eq_self.2 fun u hu'=>?_).symm
  obtain ⟨m,hm⟩:=List.mem_iff_getElem?.1 hu'
  have hmn:m < n:=by
   have:=(List.getElem?_eq_some_iff.1 hm).1
   simp at this; omega
  rw [List.getElem?_take_of_lt hmn] at hm
  simp only [bne_iff_ne,ne_eq]
  intro e
  have:=hu m n u t hm hn (by rw [e,ht])
  omega
 ·refine (List.filter_eq_self.2 fun u hu'=>?_).symm
  obtain ⟨m,hm⟩:=List.mem_iff_getElem?.1 hu'
  rw [List.getElem?_drop] at hm
  simp only [bne_iff_ne,ne_eq]
  intro e
  have:=hu (n+1+m) n u t hm hn (by rw [e,ht])
  omega
theorem ends_eq {st:RS} {x:Wh} {n:Nat} {t:Tx} (hu:st.uniq) (hn:st.txns[n]?=some t) (ht:t.who=x) (back:Bool) (why:Int):st.endT x back why n t=st.ends x back why:=by
 unfold RS.endT RS.ends
 rw [txOf_at hu hn ht,erase_filter hu hn ht,offB_eq]
theorem RS.Fit.ends {N:Nat} {st:RS} (F:st.Fit N) (x:Wh) (back:Bool) (why:Int):(st.ends x back why).Fit N:=by
 cases h:st.txOf x with
 | none=>unfold RS.ends; rw [h]; exact F
 | some t =>
  have hw:t.who=x:=by simpa using List.find?_some h
  obtain ⟨n,hn⟩:=List.mem_iff_getElem?.1 (List.mem_of_find?_eq_some h)
  rw [← ends_eq F.uniq hn hw]
  exact F.ended hn hw back why
theorem ends_recs {st:RS} {x:Wh} (hx:∃ t∈st.txns,t.who=x) (back:Bool) (why:Int):(st.ends x back why).recs=st.recs.filter (fun c=>c.who != x):=by
 unfold RS.ends
 cases h:st.txOf x with
 | none =>
  obtain ⟨t,ht,e⟩:=hx
  exact absurd (List.find?_eq_none.1 h t ht) (by simp [e])
 | some t=>rfl
theorem ends_recs_lt {st:RS} {c:Rc} (hx:∃ t∈st.txns,t.who=c.who) (hc:c∈st.recs) (back:Bool) (why:Int):(st.ends c.who back why).recs.length < st.recs.length:=by
 rw [ends_recs hx]
 exact List.length_filter_lt_length_iff_exists.2 ⟨c,hc,by simp⟩
def clrP (r a:Rc):Bool:=!a.waits && (!sameL a.who.1 a.who.2.1 r.at_.1 r.at_.2 && meetB a r)
def RS.clearN (rc:Rc):Nat→RS→RS
 | 0,st=>st
 | f+1,st=>match st.recs.find? (clrP rc) with
  | none=>st
  | some a=>RS.clearN rc f (st.ends a.who true 1)
def RS.clearT (st:RS) (rc:Rc):RS:=if rc.write then RS.clearN rc st.recs.length st else st
theorem clearN_fit {N:Nat} {rc:Rc}:∀ (f:Nat) (st:RS),st.Fit N→(RS.clearN rc f st).Fit N
 | 0,_,F=>F
 | f+1,st,F=>by
  unfold RS.clearN
  cases h:st.recs.find? (clrP rc) with
  | none=>exact F
  | some a=>exact clearN_fit f _ (F.ends _ _ _)
theorem RS.Fit.clearT {N:Nat} {st:RS} (F:st.Fit N) (rc:Rc):(st.clearT rc).Fit N:=by
 unfold RS.clearT; split
 ·exact clearN_fit _ _ F
 ·exact F
end Go.Proofs.Ytpbcplfpjcacfaa
