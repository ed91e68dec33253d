import Derived.Test.YtpbcplfpjcacfaaF17
namespace Go.Proofs.Ytpbcplfpjcacfaa
open Go.RowKit
set_option maxRecDepth 100000
set_option maxHeartbeats 8000000
theorem meetB_comm (a b:Rc):meetB a b=meetB b a:=by
 unfold meetB
 rw [sameL_eq,sameL_eq,Bool.or_comm]
 have:(a.at_ == b.at_)=(b.at_ == a.at_):=by
  by_cases h:a.at_=b.at_
  ·rw [h]
  ·have e1:(a.at_ == b.at_)=false:=by simpa using h
   have e2:(b.at_ == a.at_)=false:=by simpa using fun e=>h e.symm
   rw [e1,e2]
 rw [this]
 cases (b.at_ == a.at_)<;>cases decide (a.lo≤b.hi)<;>cases decide (b.lo≤a.hi)<;>rfl
theorem hind_meet {d c:Rc} (h:hindB d c=false) (hw:d.waits=false) (hl:d.who.lab=c.at_) (hn:d.who≠c.who):meetB d c=false:=by
 unfold hindB at h
 have e1:sameW d.who.1 d.who.2.1 d.who.2.2 c.who.1 c.who.2.1 c.who.2.2=false:=by rw [sameW_eq]; simpa using hn
 have e2:sameL d.who.1 d.who.2.1 c.at_.1 c.at_.2=true:=by
  rw [show sameL d.who.1 d.who.2.1 c.at_.1 c.at_.2=(d.who.lab == c.at_) from sameL_eq d.who.lab c.at_,hl]; simp
 rw [e1,e2,hw] at h
 cases hm:meetB d c with
 | false=>rfl
 | true=>rw [hm] at h; simp at h
theorem dom_place {a b:Lab} (h1:labB a.1 a.2=true) (h2:labB b.1 b.2=true) (h:domB a.1 a.2 b.1 b.2=true):plOf b≤plOf a:=by
 obtain ⟨a0,a1,a2,a3⟩:=labB_t h1
 obtain ⟨b0,b1,b2,b3⟩:=labB_t h2
 unfold domB at h
 simp only [Bool.and_eq_true,decide_eq_true_eq] at h
 have hc:b.2≤a.2:=by
  have hh:∀ x y:Fin 8,okTo (x.val:Int) (y.val:Int) 3=true→y.val≤x.val:=by decide +kernel
  have:=hh ⟨a.2.toNat,by omega⟩ ⟨b.2.toNat,by omega⟩
  simp only at this
  rw [show ((a.2.toNat:Nat):Int)=a.2 by omega,show ((b.2.toNat:Nat):Int)=b.2 by omega] at this
  have:=this h.2
  omega
 unfold plOf placeOf
 omega
theorem RS.Inv.told {st:RS} (I:st.Inv) (x:Wh):(st.toldT x).Inv:=⟨I.low,I.last,I.came,I.clock,I.nth,I.begun,I.vals,I.excl,I.cover⟩
theorem RS.Inv.mapTx {st:RS} (I:st.Inv) {x:Wh} {f:Tx→Tx} (h1:∀ t,(f t).who=t.who) (h2:∀ t,(f t).olds=t.olds) (h3:∀ t,(f t).nth=t.nth) (h4:∀ t∈st.txns,(f t).step.op=4→0≤(f t).step.value):(st.mapTx x f).Inv where
 low:=I.low
 last:=I.last
 came:=I.came
 clock:=I.clock
 nth:=by
  show (st.txns.map _).Pairwise _
  rw [List.pairwise_map]
  refine I.nth.imp (fun {t u} h=>?_)
  have e:∀ t:Tx,(if t.who == x then f t else t).nth=t.nth:=fun t=>by split; exact h3 t; rfl
  rw [e,e]; exact h
 begun:=fun t ht=>by
  obtain ⟨u,hu,rfl⟩:=List.mem_map.1 ht
  have:(if u.who == x then f u else u).nth=u.nth:=by split; exact h3 u; rfl
  rw [this]; exact I.begun u hu
 vals:=fun t ht=>by
  obtain ⟨u,hu,rfl⟩:=List.mem_map.1 ht
  split
  ·exact h4 u hu
  ·exact I.vals u hu
 excl:=I.excl
 cover:=fun t ht o ho=>by
  obtain ⟨u,hu,rfl⟩:=List.mem_map.1 ht
  have e1:(if u.who == x then f u else u).who=u.who:=by split; exact h1 u; rfl
  have e2:(if u.who == x then f u else u).olds=u.olds:=by split; exact h2 u; rfl
  rw [e2] at ho
  rw [e1]; exact I.cover u hu o ho
theorem RS.Inv.begin {st:RS} (I:st.Inv) (x:Wh):(st.beginT x).Inv where
 low:=I.low
 last:=I.last
 came:=I.came
 clock:=I.clock
 nth:=by
  show (st.txns++[newTx x (st.begun+1)]).Pairwise _
  rw [List.pairwise_append]
  refine ⟨I.nth,by simp,fun t ht u hu=>?_⟩
  simp at hu; subst hu
  have:=I.begun t ht
  show t.nth < st.begun+1
  omega
 begun:=fun t ht=>by
  rcases List.mem_append.1 ht with h | h
  ·have:=I.begun t h; show t.nth≤st.begun+1; omega
  ·simp at h; subst h; exact Int.le_refl _
 vals:=fun t ht=>by
  rcases List.mem_append.1 ht with h | h
  ·exact I.vals t h
  ·simp at h; subst h; intro h; simp [newTx,zeroStp] at h
 excl:=I.excl
 cover:=fun t ht o ho=>by
  rcases List.mem_append.1 ht with h | h
  ·exact I.cover t h o ho
  ·simp at h; subst h; cases ho
theorem RS.Inv.ends {st:RS} (I:st.Inv) (x:Wh) (b:Bool) (w:Int):(st.ends x b w).Inv:=by
 rcases ends_rest st x b w with e | ⟨p,e⟩
 ·rw [e]; exact I
 ·rw [e]
  exact {
   low:=fun c hc=>I.low c (List.mem_filter.1 hc).1
   last:=I.last.sublist List.filter_sublist
   came:=I.came.sublist List.filter_sublist
   clock:=fun c hc=>I.clock c (List.mem_filter.1 hc).1
   nth:=I.nth.sublist List.filter_sublist
   begun:=fun t ht=>I.begun t (List.mem_filter.1 ht).1
   vals:=fun t ht=>I.vals t (List.mem_filter.1 ht).1
   excl:=fun c hc d hd=>I.excl c (List.mem_filter.1 hc).1 d (List.mem_filter.1 hd).1
   cover:=fun t ht o ho=>by
    obtain ⟨h1,h2⟩:=List.mem_filter.1 ht
    obtain ⟨c,hc,c1,cr⟩:=I.cover t h1 o ho
    exact ⟨c,List.mem_filter.2 ⟨hc,by rw [c1]; exact h2⟩,c1,cr⟩ }
theorem RS.Inv.clearN {rc:Rc}:∀ (f:Nat) (st:RS),st.Inv→(RS.clearN rc f st).Inv
 | 0,_,h=>h
 | f+1,st,h=>by
  unfold RS.clearN
  split
  ·exact h
  ·exact RS.Inv.clearN f _ (h.ends _ _ _)
theorem RS.Inv.clearT {st:RS} (I:st.Inv) (rc:Rc):(st.clearT rc).Inv:=by
 unfold RS.clearT; split
 ·exact RS.Inv.clearN _ _ I
 ·exact I
theorem RS.Inv.addRec {st:RS} (I:st.Inv) {c:Rc} (hl:plOf c.at_≤plOf c.who.lab∧(c.write=true→c.at_=c.who.lab)) (hn:∀ d∈st.recs,d.who=c.who→d.waits=false) (hc:c.came=st.clock+1) (hh:c.waits=false→∀ d∈st.recs,hindB d c=false):(st.addRec c).Inv where
 low:=fun d hd=>by
  rcases List.mem_append.1 hd with h | h
  ·exact I.low d h
  ·simp at h; subst h; exact hl
 last:=by
  show (st.recs++[c]).Pairwise _
  rw [List.pairwise_append]
  exact ⟨I.last,by simp,fun d hd e he=>by simp at he; subst he; exact hn d hd⟩
 came:=by
  show (st.recs++[c]).Pairwise _
  rw [List.pairwise_append]
  exact ⟨I.came,by simp,fun d hd e he=>by simp at he; subst he; have:=I.clock d hd; omega⟩
 clock:=fun d hd=>by
  show d.came≤st.clock+1
  rcases List.mem_append.1 hd with h | h
  ·have:=I.clock d h; omega
  ·simp at h; subst h; omega
 nth:=I.nth
 begun:=I.begun
 vals:=I.vals
 excl:=fun a ha b hb wa wb haa hbl hne=>by
  rcases List.mem_append.1 ha with h1 | h1
  ·rcases List.mem_append.1 hb with h2 | h2
   ·exact I.excl a h1 b h2 wa wb haa hbl hne
   ·simp at h2; subst h2
    by_cases e:b.at_=a.at_
    ·exact hind_meet (hh wb a h1) wa (by rw [e,haa]) hne
    ·unfold meetB
     rw [sameL_eq]
     have:(a.at_ == b.at_)=false:=by simp; exact fun h=>e h.symm
     rw [this]; rfl
  ·simp at h1; subst h1
   rcases List.mem_append.1 hb with h2 | h2
   ·rw [meetB_comm]
    exact hind_meet (hh wa b h2) wb (by rw [hbl,haa]) (Ne.symm hne)
   ·simp at h2; subst h2; exact absurd rfl hne
 cover:=fun t ht o ho=>by
  obtain ⟨d,hd,dr⟩:=I.cover t ht o ho
  exact ⟨d,List.mem_append.2 (.inl hd),dr⟩
theorem RS.Inv.off {st:RS} (I:st.Inv) {j:Nat} {c:Rc} (hj:st.recs[j]?=some c) (hw:c.waits=true) (hh:st.hindered c=false):(st.offAt j c).Inv:=by
 have hlt:=(List.getElem?_eq_some_iff.1 hj).1
 have hcm:=List.mem_of_getElem? hj
 have hnh:∀ d∈st.recs,hindB d c=false:=fun d hd=>by
  unfold RS.hindered at hh
  have:=List.any_eq_false.1 hh d hd
  simpa using this
 have mem:∀ d,d∈(st.offAt j c).recs→d=c.off∨d∈st.recs:=fun d hd=>(List.mem_or_eq_of_mem_set hd).elim .inr .inl
 have hback:∀ d∈st.recs,d.waits=false→d∈(st.offAt j c).recs:=fun d hd hdw=>by
  obtain ⟨i,hi⟩:=List.mem_iff_getElem?.1 hd
  have hne:j≠i:=fun e=>by
   rw [← e,hj] at hi
   have:c=d:=Option.some.inj hi
   rw [this,hdw] at hw; cases hw
  exact List.mem_of_getElem? ((List.getElem?_set_ne hne).trans hi)
 have pw:∀ {R:Rc→Rc→Prop},st.recs.Pairwise R→(∀ d,R d c→R d c.off)→(∀ d,R c d→R c.off d)→(st.offAt j c).recs.Pairwise R:=by
  intro R h h1 h2
  show (st.recs.set j c.off).Pairwise R
  rw [set_at hj]
  rw [split_at hj,List.pairwise_append] at h
  obtain ⟨ha,hb,hc⟩:=h
  obtain ⟨hb1,hb2⟩:=List.pairwise_cons.1 hb
  rw [List.pairwise_append]
  refine ⟨ha,List.pairwise_cons.2 ⟨fun d hd=>h2 d (hb1 d hd),hb2⟩,fun d hd e he=>?_⟩
  rcases List.mem_cons.1 he with h' | h'
  ·rw [h']; exact h1 d (hc d hd c (List.mem_cons_self))
  ·exact hc d hd e (List.mem_cons_of_mem _ h')
 exact {
  low:=fun d hd=>by
   rcases mem d hd with h | h
   ·subst h; exact I.low c hcm
   ·exact I.low d h
  last:=pw I.last (fun d h=>h) (fun d _ _=>rfl)
  came:=pw I.came (fun d h=>h) (fun d h=>h)
  clock:=fun d hd=>by
   rcases mem d hd with h | h
   ·subst h; exact I.clock c hcm
   ·exact I.clock d h
  nth:=I.nth
  begun:=I.begun
  vals:=I.vals
  excl:=fun a ha b hb wa wb haa hbl hne=>by
   rcases mem a ha with h1 | h1
   ·subst h1
    rcases mem b hb with h2 | h2
    ·subst h2; exact absurd rfl hne
    ·rw [meetB_comm]
     exact hind_meet (hnh b h2) wb (hbl.trans haa.symm) (Ne.symm hne)
   ·rcases mem b hb with h2 | h2
    ·subst h2
     by_cases e:c.at_=a.at_
     ·show meetB a c=false
      exact hind_meet (hnh a h1) wa (show a.who.lab=c.at_ by rw [e,haa]) hne
     ·unfold meetB
      rw [sameL_eq]
      have:(a.at_ == c.off.at_)=false:=by simp; exact fun h=>e h.symm
      rw [this]; rfl
    ·exact I.excl a h1 b h2 wa wb haa hbl hne
  cover:=fun t ht o ho=>by
   obtain ⟨d,hd,d1,d2,dr⟩:=I.cover t ht o ho
   exact ⟨d,hback d hd d2,d1,d2,dr⟩ }
theorem RS.Inv.does {N:Nat} {st:RS} (F:st.Fit N) (I:st.Inv) {x:Stp} {q n:Nat} {t:Tx} (R:Ready st x q n t):(st.does x).1.Inv:=by
 obtain ⟨htm,htx⟩:=txOf_mem R.tx
 obtain ⟨m,hm⟩:=List.mem_iff_getElem?.1 htm
 rw [does_at F.uniq hm htx]
 have hlt:=(List.getElem?_eq_some_iff.1 hm).1
 have key:∀ (v:Int) (ps:List Int),x.op=4∨x.op=5→RS.Inv { st.writeT m t x.key v with txns:=st.txns.set m { t.wrote st x.key with puts:=ps } }:=fun v ps ho=>by
  have hat:x.at_=x.who.lab:=R.wr ho
  have H:=R.holds hat
  have hhi:x.hi=x.key:=by unfold Stp.hi; rw [if_neg (by omega)]
  rw [hhi,decide_eq_true ho] at H
  have W:=wrote_is F I hm htx (v:=v) H ps
  have hn:(t.wrote st x.key).nth=t.nth:=by unfold Tx.wrote; split<;>rfl
  have hst:(t.wrote st x.key).step=t.step:=by unfold Tx.wrote; split<;>rfl
  have hrest:(st.writeT m t x.key v).recs=st.recs∧(st.writeT m t x.key v).clock=st.clock∧(st.writeT m t x.key v).begun=st.begun:=by
   unfold RS.writeT RS.setP RS.keepOld
   split<;>exact ⟨rfl,rfl,rfl⟩
  obtain ⟨r1,r2,r3⟩:=hrest
  have memt:∀ u,u∈st.txns.set m { t.wrote st x.key with puts:=ps }→u={ t.wrote st x.key with puts:=ps }∨u∈st.txns:=fun u hu=>(List.mem_or_eq_of_mem_set hu).elim .inr .inl
  exact {
   low:=fun c hc=>I.low c (by rw [← r1]; exact hc)
   last:=by show (st.writeT m t x.key v).recs.Pairwise _; rw [r1]; exact I.last
   came:=by show (st.writeT m t x.key v).recs.Pairwise _; rw [r1]; exact I.came
   clock:=fun c hc=>by show c.came≤(st.writeT m t x.key v).clock; rw [r2]; exact I.clock c (by rw [← r1]; exact hc)
   nth:=by
    show (st.txns.set m _).Pairwise _
    have h:=I.nth
    rw [split_at hm,List.pairwise_append] at h
    obtain ⟨ha,hb,hc⟩:=h
    obtain ⟨hb1,hb2⟩:=List.pairwise_cons.1 hb
    rw [set_at hm,List.pairwise_append]
    refine ⟨ha,List.pairwise_cons.2 ⟨fun d hd=>?_,hb2⟩,fun d hd e he=>?_⟩
    ·show (t.wrote st x.key).nth < d.nth; rw [hn]; exact hb1 d hd
    ·rcases List.mem_cons.1 he with h' | h'
     ·rw [h']; show d.nth < (t.wrote st x.key).nth; rw [hn]; exact hc d hd t (List.mem_cons_self)
     ·exact hc d hd e (List.mem_cons_of_mem _ h')
   begun:=fun u hu=>by
    show u.nth≤(st.writeT m t x.key v).begun
    rw [r3]
    rcases memt u hu with h | h
    ·rw [h]; show (t.wrote st x.key).nth≤_; rw [hn]; exact I.begun t htm
    ·exact I.begun u h
   vals:=fun u hu=>by
    rcases memt u hu with h | h
    ·rw [h]; show (t.wrote st x.key).step.op=4→0≤(t.wrote st x.key).step.value; rw [hst]; exact I.vals t htm
    ·exact I.vals u h
   excl:=fun a ha b hb=>I.excl a (by rw [← r1]; exact ha) b (by rw [← r1]; exact hb)
   cover:=fun u hu o ho=>by
    show ∃ c∈(st.writeT m t x.key v).recs,_
    rw [r1]
    rcases memt u hu with h | h
    ·subst h
     have hw:({ t.wrote st x.key with puts:=ps }:Tx).who=t.who:=wrote_who st t x.key
     rw [hw]
     have ho':o∈t.olds∨o=(x.key,st.val t.who.lab x.key):=by
      have:o∈(t.wrote st x.key).olds:=ho
      unfold Tx.wrote at this
      split at this
      ·exact .inl this
      ·rcases List.mem_append.1 this with h' | h'
       ·exact .inl h'
       ·exact .inr (by simpa using h')
     rcases ho' with h' | h'
     ·exact I.cover t htm o h'
     ·obtain ⟨c,hc,c1,c2,c3,c4,c5,c6⟩:=H
      exact ⟨c,hc,by rw [c1,htx],c2,c6 rfl,by rw [c3,htx],by rw [h']; exact c4,by rw [h']; exact c5⟩
    ·exact I.cover u h o ho }
 unfold RS.job
 split
 ·rename_i h5
  have:=key (-1) t.puts (.inr h5)
  rw [setT_same_of hm rfl] at this
  exact this
 ·split
  ·rename_i h4
   split
   ·exact I
   ·have:=key x.value (t.puts++[x.key]) (.inl h4)
    have e:st.putT m t x.key x.value={ st.writeT m t x.key x.value with txns:=st.txns.set m { t.wrote st x.key with puts:=t.puts++[x.key] } }:=by
     unfold RS.putT
     rw [writeT_txns hm,List.set_set]
    rw [e]; exact this
  ·exact I
theorem lk_meet (a b:Rc):(rcLk a).meetB (rcLk b)=meetB a b:=by
 unfold Lk.meetB meetB rcLk
 simp only
 cases sameL a.at_.1 a.at_.2 b.at_.1 b.at_.2<;>cases decide (a.lo≤b.hi)<;>cases decide (b.lo≤a.hi)<;>rfl
theorem ses_met (st:RS) (x:Wh) (b:Rc):(st.sesOf x).metB (rcLk b)=st.recs.any (fun a=>(a.who == x && !a.waits) && meetB a b):=by
 unfold Ses.metB RS.sesOf RS.locksOf
 simp only
 rw [List.any_map,List.any_filter]
 congr 1
 funext a
 simp only [Function.comp,lk_meet]
theorem lsOff_comm (l:List Nat) (m n:Nat):lsOff (lsOff l m) n=lsOff (lsOff l n) m:=by
 unfold lsOff
 rw [List.filter_filter,List.filter_filter]
 congr 1
 funext a
 exact Bool.and_comm _ _
theorem upd_comm {α:Type} (f:Nat→α) {m n:Nat} (h:m≠n) (x y:α):upd (upd f m x) n y=upd (upd f n y) m x:=by
 funext k
 unfold upd
 by_cases e1:k=n
 ·by_cases e2:k=m
  ·omega
  ·simp [e1,Ne.symm h]
 ·by_cases e2:k=m
  ·simp [e2,h]
  ·simp [e1,e2]
theorem forceT_eq (t:Tr) (n:Nat) (w:Int):t.forceT n w={ t with begun:=lsOff t.begun n,queue:=lsOff t.queue n,ses:=upd t.ses n { ses0 with ended:=w } }:=by
 unfold Tr.forceT Tr.endT Tr.setS
 simp only [upd_upd]
theorem forceT_comm (t:Tr) {m n:Nat} (h:m≠n) (v w:Int):(t.forceT m v).forceT n w=(t.forceT n w).forceT m v:=by
 rw [forceT_eq,forceT_eq,forceT_eq t n w,forceT_eq]
 simp only [lsOff_comm t.begun m n,lsOff_comm t.queue m n,upd_comm t.ses h]
theorem forceT_ses (t:Tr) (n m:Nat) (w:Int):(t.forceT n w).ses m=if m=n then { ses0 with ended:=w } else t.ses m:=by
 rw [forceT_eq]; rfl
theorem preTo_ses (t:Tr) (r:Lk):∀ (k n:Nat),k≤n→(t.preTo r k).ses n=t.ses n
 | 0,_,_=>rfl
 | k+1,n,h=>by
  unfold Tr.preTo
  split
  ·rw [forceT_ses,if_neg (by omega)]; exact preTo_ses t r k n (by omega)
  ·exact preTo_ses t r k n (by omega)
theorem preTo_forced (t:Tr) (r:Lk) {n:Nat} (hm:(t.ses n).metB r=true):∀ k,(t.forceT n 1).preTo r k=if n < k then t.preTo r k else (t.preTo r k).forceT n 1
 | 0=>by rw [if_neg (by omega)]; rfl
 | k+1=>by
  have ih:=preTo_forced t r hm k
  rw [Tr.preTo,ih]
  by_cases h1:n < k
  ·rw [if_pos h1,if_pos (c:=n < k+1) (by omega)]; rfl
  ·rw [if_neg h1]
   by_cases h2:n=k
   ·subst h2
    have e0:(((t.preTo r n).forceT n 1).ses n).metB r=false:=by rw [forceT_ses,if_pos rfl]; rfl
    rw [e0,if_pos (c:=n < n+1) (by omega)]
    rw [Tr.preTo,preTo_ses t r n n (Nat.le_refl _),hm]
    rfl
   ·have e0:((t.preTo r k).forceT n 1).ses k=(t.preTo r k).ses k:=by rw [forceT_ses,if_neg (fun e=>h2 e.symm)]
    rw [e0,if_neg (c:=n < k+1) (by omega),Tr.preTo]
    split
    ·exact forceT_comm _ h2 1 1
    ·rfl
theorem preTo_none (t:Tr) (r:Lk):∀ k,(∀ n,n < k→(t.ses n).metB r=false)→t.preTo r k=t
 | 0,_=>rfl
 | k+1,h=>by
  rw [Tr.preTo,preTo_none t r k (fun n hn=>h n (by omega)),h k (by omega)]
  rfl
theorem plOf_ne {a b:Lab} (ha:a.ok) (hb:b.ok) (h:a≠b):plOf a≠plOf b:=fun e=>by
 have h1:labB a.1 a.2=true:=labB_mk ha
 have h2:labB b.1 b.2=true:=labB_mk hb
 exact h (by rw [← labOf_plOf h1,e,labOf_plOf h2])
theorem clr_above {N:Nat} {st:RS} (F:st.Fit N) (I:st.Inv) {rc a:Rc} (ha:a∈st.recs) (h:clrP rc a=true):a.waits=false∧meetB a rc=true∧a.at_=rc.at_∧plOf rc.at_ < plOf a.who.lab:=by
 unfold clrP at h
 simp only [Bool.and_eq_true,Bool.not_eq_true'] at h
 obtain ⟨h1,h2,h3⟩:=h
 have hat:a.at_=rc.at_:=by
  unfold meetB at h3
  simp only [Bool.and_eq_true] at h3
  have:=of_decide_eq_true h3.1.1.1
  exact Prod.ext this.1 this.2
 have hne:a.who.lab≠rc.at_:=by
  rw [show sameL a.who.1 a.who.2.1 rc.at_.1 rc.at_.2=(a.who.lab == rc.at_) from sameL_eq a.who.lab rc.at_] at h2
  simpa using h2
 refine ⟨h1,h3,hat,?_⟩
 have hlow:=(I.low a ha).1
 rw [hat] at hlow
 have hw:a.who.lab.ok:=(F.recW ha).1
 have hr:rc.at_.ok:=by rw [← hat]; exact F.recAt a ha
 have:=plOf_ne hr hw (Ne.symm hne)
 omega
theorem pre_step {N:Nat} {st:RS} (F:st.Fit N) (I:st.Inv) {rc a:Rc} (ha:a∈st.recs) (h:clrP rc a=true):(st.ends a.who true 1).toPS.preT (rcLk rc)=st.toPS.preT (rcLk rc):=by
 obtain ⟨h1,h2,h3,h4⟩:=clr_above F I ha h
 obtain ⟨q,n,hq,hn,hx⟩:=ok_who (F.recW ha)
 obtain ⟨t,ht,htx⟩:=F.backed a ha
 obtain ⟨m,hm⟩:=List.mem_iff_getElem?.1 ht
 have htx':st.txOf a.who=some t:=txOf_at F.uniq hm htx
 have hpl:plOf a.who.lab=q:=by rw [hx,whoOf_lab,plOf_labOf hq]
 rw [sim_force F I hx htx' 1 (by omega)]
 have hmet:((st.trOf q).ses n).metB (rcLk rc)=true:=by
  show (st.sesOf (whoOf q n)).metB (rcLk rc)=true
  rw [ses_met,List.any_eq_true]
  exact ⟨a,ha,by rw [hx,h1,h2]; simp⟩
 unfold PS.preT PS.preTo PS.setT
 simp only
 congr 1
 funext q'
 unfold upd
 by_cases e:q'=q
 ·subst e
  rw [if_pos rfl]
  have hc:plOf (rcLk rc).at_ < q'∧q' < 32:=⟨by rw [← hpl]; exact h4,hq⟩
  rw [if_pos hc,if_pos hc]
  have:=preTo_forced (st.trOf q') (rcLk rc) hmet 4
  rw [if_pos hn] at this
  exact this
 ·rw [if_neg e]
theorem pre_none {st:RS} {rc:Rc} (h:∀ a∈st.recs,clrP rc a=false):st.toPS.preT (rcLk rc)=st.toPS:=by
 unfold PS.preT PS.preTo
 congr 1
 funext q'
 by_cases hc:plOf (rcLk rc).at_ < q'∧q' < 32
 ·rw [if_pos hc]
  refine preTo_none _ _ 4 (fun n hn=>?_)
  show (st.sesOf (whoOf q' n)).metB (rcLk rc)=false
  rw [ses_met,List.any_eq_false]
  intro a ha hb
  simp only [Bool.and_eq_true,beq_iff_eq,Bool.not_eq_true'] at hb
  have hcl:=h a ha
  unfold clrP at hcl
  rw [hb.1.2,hb.2] at hcl
  rw [show sameL a.who.1 a.who.2.1 rc.at_.1 rc.at_.2=(a.who.lab == rc.at_) from sameL_eq a.who.lab rc.at_,hb.1.1,whoOf_lab] at hcl
  simp at hcl
  have:plOf rc.at_=q':=by rw [← hcl,plOf_labOf hc.2]
  have h1:=hc.1
  have:plOf (rcLk rc).at_=q':=this
  omega
 ·rw [if_neg hc]; rfl
theorem sim_clearN {N:Nat} {rc:Rc}:∀ (f:Nat) (st:RS),st.Fit N→st.Inv→st.recs.length≤f→(RS.clearN rc f st).toPS=st.toPS.preT (rcLk rc)
 | 0,st,_,_,h=>by
  have:st.recs=[]:=List.eq_nil_of_length_eq_zero (by omega)
  rw [pre_none (fun a ha=>by rw [this] at ha; cases ha)]
  rfl
 | f+1,st,F,I,h=>by
  unfold RS.clearN
  cases hf:st.recs.find? (clrP rc) with
  | none =>
   have hno:∀ c∈st.recs,clrP rc c=false:=fun c hc=>by have:=List.find?_eq_none.1 hf c hc; simpa using this
   simp only
   rw [pre_none hno]
  | some a =>
   simp only
   have ha:=List.mem_of_find?_eq_some hf
   have hlt:=ends_recs_lt (F.backed a ha) ha true 1
   rw [sim_clearN f _ (F.ends _ _ _) (I.ends _ _ _) (by omega),pre_step F I ha (List.find?_some hf)]
theorem sim_clear {N:Nat} {st:RS} (F:st.Fit N) (I:st.Inv) (rc:Rc):(st.clearT rc).toPS=if (rcLk rc).wr then st.toPS.preT (rcLk rc) else st.toPS:=by
 unfold RS.clearT
 by_cases h:rc.write=true
 ·rw [if_pos h,if_pos (by exact h)]; exact sim_clearN _ st F I (Nat.le_refl _)
 ·rw [if_neg h,if_neg (by exact h)]
theorem clearN_recs {rc:Rc} {y:Rc}:∀ (f:Nat) (st:RS),y∈st.recs→(∀ z∈st.recs,clrP rc z=true→z.who≠y.who)→y∈(RS.clearN rc f st).recs
 | 0,_,h,_=>h
 | f+1,st,h,hc=>by
  unfold RS.clearN
  cases hf:st.recs.find? (clrP rc) with
  | none=>exact h
  | some a =>
   simp only
   have ha:=List.mem_of_find?_eq_some hf
   have hne:=hc a ha (List.find?_some hf)
   rcases ends_rest st a.who true 1 with e | ⟨p,e⟩
   ·rw [e]; exact clearN_recs f st h hc
   ·refine clearN_recs f _ ?_ (fun z hz=>?_)
    ·rw [e]; exact List.mem_filter.2 ⟨h,by simpa using Ne.symm hne⟩
    ·rw [e] at hz; exact hc z (List.mem_filter.1 hz).1
theorem clearT_recs {st:RS} {rc:Rc} {y:Rc} (h:y∈st.recs) (hc:rc.write=true→∀ z∈st.recs,clrP rc z=true→z.who≠y.who):y∈(st.clearT rc).recs:=by
 unfold RS.clearT; split
 ·rename_i hw; exact clearN_recs _ _ h (hc hw)
 ·exact h
theorem asks_lk {x:Stp} {c:Rc} (h:x.asks c):lkOf x=rcLk c:=by
 obtain ⟨h1,h2,h3,h4,h5,h6,h7⟩:=h
 unfold lkOf rcLk
 rw [h2,h4,h5]
 congr 1
 cases hw:c.write with
 | true=>exact decide_eq_true (h6.1 hw)
 | false=>exact decide_eq_false (fun e=>by have:=h6.2 e; rw [hw] at this; cases this)
theorem clr_own {rc z:Rc} (h:clrP rc z=true):z.who.lab≠rc.at_:=fun e=>by
 unfold clrP at h
 rw [show sameL z.who.1 z.who.2.1 rc.at_.1 rc.at_.2=(z.who.lab == rc.at_) from sameL_eq z.who.lab rc.at_,e] at h
 simp at h
theorem waitB_true {st:RS} {c:Rc} (hc:c∈st.recs) (hw:c.waits=true):st.waitB c.who=true:=by
 unfold RS.waitB; rw [List.any_eq_true]; exact ⟨c,hc,by simp [hw]⟩
theorem sim_grant {N:Nat} {st:RS} (F:st.Fit N) (I:st.Inv) {j:Nat} {c:Rc} (hj:st.recs[j]?=some c) (hw:c.waits=true) (hh:st.hindered c=false) {q n:Nat} (hc:c.who=whoOf q n) (hq:q < 32) :
  (st.grant j c).toPS=(st.toPS.admitT q n).1.tellT q n (st.toPS.admitT q n).2∧(st.grant j c).Inv:=by
 have hcm:=List.mem_of_getElem? hj
 obtain ⟨m,t,G⟩:=granting F hj hw
 have I1:(st.offAt j c).Inv:=I.off hj hw hh
 have I2:(st.granted j c).Inv:=I1.clearT c.off
 have hs:(st.granted j c).stepOf c.who=t.step:=stepOf_at G.fit.uniq G.at_ G.who
 obtain ⟨k,hk⟩:=List.mem_iff_getElem?.1 G.mem
 have hreq:((st.toPS.t q).ses n).req=t.step:=by
  rw [toPS_ses,← hc]
  show st.reqOf c.who=t.step
  unfold RS.reqOf
  rw [waitB_true hcm hw,if_pos rfl]
  exact stepOf_at F.uniq hk G.who
 have hlk:=asks_lk G.asks
 obtain ⟨a1,a2,a3,a4,a5,a6,a7⟩:=G.asks
 have hP:(st.granted j c).toPS=st.toPS.lockT q n t.step:=by
  unfold RS.granted
  rw [sim_clear (F.offAt hj) I1 c.off,sim_off F I hj hw hc]
  unfold PS.lockT
  rw [hlk]
  rfl
 have htx:(st.granted j c).txOf c.who=some t:=txOf_at G.fit.uniq G.at_ G.who
 have hown:c.off∈(st.granted j c).recs:=by
  unfold RS.granted
  refine clearT_recs (List.mem_of_getElem? (List.getElem?_set_self (List.getElem?_eq_some_iff.1 hj).1)) (fun hwr z _ hz e=>?_)
  have hl:c.at_=c.who.lab:=by rw [← a2,a7 hwr,a1]
  exact clr_own hz (by rw [e]; exact hl.symm)
 have R:Ready (st.granted j c) t.step q n t:={
  who:=by rw [a1,hc]
  hq:=hq
  tx:=by rw [a1]; exact htx
  good:=a3
  lab:=by rw [a2]; exact labB_mk (F.recAt c hcm)
  wr:=fun h=>a7 (a6.2 h)
  holds:=fun h=>⟨c.off,hown,by rw [a1]; rfl,rfl,by rw [← h,a2]; rfl,by show c.lo≤_; rw [a4]; exact Int.le_refl _,by show _≤c.hi; rw [a5]; exact Int.le_refl _,fun h=>a6.2 (of_decide_eq_true h)⟩
  val:=I2.vals t (List.mem_of_getElem? G.at_) }
 obtain ⟨d1,d2⟩:=sim_does G.fit I2 R
 have hA:st.toPS.admitT q n=(st.granted j c).toPS.grantT q n t.step:=by
  unfold PS.admitT
  rw [hreq,hP]
 have hd:(st.granted j c).does t.step=(st.granted j c).job m t t.step:=does_at G.fit.uniq G.at_ (by rw [G.who,a1])
 have hu:∃ u,((st.granted j c).does t.step).1.txOf c.who=some u:=by
  obtain ⟨u,hu,hw',_⟩:=G.grant
  have FJ:=G.fit.job G.at_ G.asks.2.2.1 G.puts G.nowait
  rw [hd]
  exact ⟨u,txOf_at FJ.uniq hu hw'⟩
 obtain ⟨u,hu⟩:=hu
 refine ⟨?_,?_⟩
 ·unfold RS.grant
  rw [hs,sim_tell hc _ hu,hA,d1,d2]
 ·unfold RS.grant
  rw [hs]
  have I3:((st.granted j c).does t.step).1.Inv:=I2.does G.fit R
  exact I3.mapTx (fun _=>rfl) (fun _=>rfl) (fun _=>rfl) (fun t ht=>I3.vals t ht)
end Go.Proofs.Ytpbcplfpjcacfaa
