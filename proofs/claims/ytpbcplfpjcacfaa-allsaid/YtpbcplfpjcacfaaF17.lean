import Derived.Test.YtpbcplfpjcacfaaF16
namespace Go.Proofs.Ytpbcplfpjcacfaa
open Go.RowKit
set_option maxRecDepth 100000
set_option maxHeartbeats 8000000
def RS.Holds (st:RS) (x:Wh) (lo hi:Int) (wr:Bool):Prop:=∃ c∈st.recs,c.who=x∧c.waits=false∧c.at_=x.lab∧c.lo≤lo∧hi≤c.hi∧(wr=true→c.write=true)
theorem RS.Inv.free {st:RS} (I:st.Inv) {x:Wh} {lo hi:Int} {wr:Bool} (H:st.Holds x lo hi wr) {u:Tx} (hu:u∈st.txns) (hl:u.who.lab=x.lab) (hn:u.who≠x) {k:Int} (h1:lo≤k) (h2:k≤hi):oldIx k u.olds=none:=by
 cases h:oldIx k u.olds with
 | none=>rfl
 | some v =>
  exfalso
  obtain ⟨o',ho',hok'⟩:=known_mem ((known_iff k u.olds).trans (by rw [h]; rfl))
  obtain ⟨c,hc,c1,c2,c3,c4,c5,_⟩:=H
  obtain ⟨d,hd,d1,d2,d3,d4,d5,d6⟩:=I.cover u hu o' ho'
  have:=I.excl c hc d hd c2 d2 (by rw [c3,c1]) (by rw [d1,c1,hl]) (by rw [c1,d1]; exact Ne.symm hn)
  unfold meetB at this
  have e1:sameL c.at_.1 c.at_.2 d.at_.1 d.at_.2=true:=by unfold sameL; rw [c3,d4,hl]; simp
  rw [e1,d3] at this
  simp at this
  omega
structure Wrote (st st':RS) (x:Wh) (u:Tx) (key v:Int):Prop where
 ck:st'.k=st.k
 cv:st'.v=st.v
 cc:st'.c=st.c
 recs:st'.recs=st.recs
 ended:st'.ended=st.ended
 tx:st'.txOf x=some u
 oth:∀ y,y≠x→st'.txOf y=st.txOf y
 whos:st'.txns.map (·.who)=st.txns.map (·.who)
 val:∀ a k,st'.val a k=if a=x.lab∧k=key then v else st.val a k
 comm:∀ a k,st'.comm a k=st.comm a k
theorem Wrote.toPS {st st':RS} {x:Wh} {u t:Tx} {key v:Int} (W:Wrote st st' x u key v) (I:st.Inv) (H:st.Holds x key key true) {q n:Nat} (hx:x=whoOf q n) (ht:st.txOf x=some t) (hs:u.step=t.step∧u.ready=t.ready∧u.told=t.told) :
  st'.toPS=st.toPS.setW q n (wrtOf st' u):=by
 have hses:∀ y,y≠x→st'.sesOf y=st.sesOf y:=fun y hy=>by
  refine sesOf_ext (by rw [W.recs]) (W.oth y hy) (fun w hw k hk=>?_) (by unfold RS.toldW; rw [W.ended])
  rw [W.val]
  by_cases e:y.lab=x.lab∧(k:Int)=key
  ·exfalso
   obtain ⟨h1,h2⟩:=txOf_mem hw
   have:=I.free H h1 (by rw [h2,e.1]) (by rw [h2]; exact hy) (k:=(k:Int)) (by omega) (by omega)
   rw [known_iff,this] at hk; cases hk
  ·rw [if_neg e]
 have h:=toPS_one (st:=st) (st':=st') hx W.ck W.cv W.cc (fun q k=>by unfold RS.itemOf; rw [W.comm]) (fun q=>by rw [begOf_whos,begOf_whos,W.whos]) (fun q=>by unfold RS.queOf; rw [W.recs]) hses
 rw [h]
 unfold PS.setW
 rw [toPS_ses,← hx]
 congr 1
 unfold RS.sesOf RS.reqOf RS.outOf RS.wrOf RS.stepOf RS.isReady RS.toldOf RS.locksOf RS.waitB RS.toldW
 rw [W.tx,ht,W.recs,W.ended]
 simp only
 rw [hs.1,hs.2.1,hs.2.2]
theorem oldIx_app (k key v:Int):∀ l:List (Int × Int),oldIx k l=none→oldIx k (l++[(key,v)])=if key=k then some v else none
 | [],_=>rfl
 | o :: l,h=>by
  rw [oldIx] at h
  by_cases e:o.1=k
  ·rw [if_pos e] at h; cases h
  ·rw [if_neg e] at h
   rw [List.cons_append,oldIx,if_neg e,oldIx_app k key v l h]
theorem oldIx_keep (k key v w:Int):∀ l:List (Int × Int),oldIx k l=some w→oldIx k (l++[(key,v)])=some w
 | [],h=>by cases h
 | o :: l,h=>by
  rw [oldIx] at h
  rw [List.cons_append,oldIx]
  by_cases e:o.1=k
  ·rw [if_pos e] at h ⊢; exact h
  ·rw [if_neg e] at h ⊢; exact oldIx_keep k key v w l h
theorem wrote_old {st:RS} {t:Tx} {key:Int} (k:Int):oldIx k (t.wrote st key).olds=match oldIx k t.olds with
  | some w=>some w
  | none=>if key=k then some (st.val t.who.lab key) else none:=by
 unfold Tx.wrote
 cases h:oldIx k t.olds with
 | some w =>
  split
  ·exact h
  ·exact oldIx_keep k key _ w _ h
 | none =>
  split
  ·rename_i hk
   rw [h]
   simp only
   by_cases e:key=k
   ·rw [e,known_iff,h] at hk; cases hk
   ·rw [if_neg e]
  ·exact oldIx_app k key _ _ h
theorem commIx_cg {a:Lab} {k:Int}:∀ {l l':List Tx},l.length=l'.length→(∀ (m:Nat) (t u:Tx),l[m]?=some t→l'[m]?=some u→t.who=u.who∧(t.who.lab=a→oldIx k t.olds=oldIx k u.olds))→commIx a k l=commIx a k l'
 | [],[],_,_=>rfl
 | [],_ :: _,h,_=>by simp at h
 | _ :: _,[],h,_=>by simp at h
 | t :: l,u :: l',h,hh=>by
  obtain ⟨h1,h2⟩:=hh 0 t u rfl rfl
  have ih:=commIx_cg (l:=l) (l':=l') (by simpa using h) (fun m t u ht hu=>hh (m+1) t u (by simpa using ht) (by simpa using hu))
  rw [commIx,commIx,← h1,ih]
  by_cases e:t.who.lab=a
  ·rw [if_pos e,if_pos e,h2 e]
  ·rw [if_neg e,if_neg e]
theorem set_whos {l:List Tx} {m:Nat} {t u:Tx} (h:l[m]?=some t) (hw:u.who=t.who):(l.set m u).map (·.who)=l.map (·.who):=by
 rw [set_at h]
 conv=>rhs; rw [split_at h]
 simp [hw]
theorem set_find {l:List Tx} {m:Nat} {t u:Tx} {y:Wh} (h:l[m]?=some t) (hw:u.who=t.who) (hy:y≠t.who):(l.set m u).find? (fun t=>t.who == y)=l.find? (fun t=>t.who == y):=by
 rw [set_at h]
 conv=>rhs; rw [split_at h]
 have e1:(t.who == y)=false:=by simpa using Ne.symm hy
 have e2:(u.who == y)=false:=by rw [hw]; exact e1
 rw [List.find?_append,List.find?_append,List.find?_cons,List.find?_cons,e1,e2]
theorem wrote_is {N:Nat} {st:RS} (F:st.Fit N) (I:st.Inv) {x:Wh} {m:Nat} {t:Tx} (hm:st.txns[m]?=some t) (hx:t.who=x) {key v:Int} (H:st.Holds x key key true) (ps:List Int) :
  Wrote st { st.writeT m t key v with txns:=st.txns.set m { t.wrote st key with puts:=ps } } x { t.wrote st key with puts:=ps } key v:=by
 have hu:({ t.wrote st key with puts:=ps }:Tx).who=t.who:=wrote_who st t key
 have hlt:=(List.getElem?_eq_some_iff.1 hm).1
 have hval:∀ a k,(st.writeT m t key v).val a k=if a=x.lab∧k=key then v else st.val a k:=fun a k=>by
  have e:(st.writeT m t key v).places=setIx t.who.lab key v st.places:=by
   unfold RS.writeT RS.setP RS.keepOld
   split<;>rfl
  unfold RS.val
  rw [e,hx]
  by_cases h:a=x.lab
  ·subst h
   by_cases h2:k=key
   ·subst h2; rw [if_pos ⟨rfl,rfl⟩]; exact valIx_set_same _ _ _ _
   ·rw [if_neg (fun e=>h2 e.2)]; exact valIx_set_key _ h2 _ _
  ·rw [if_neg (fun e=>h e.1)]; exact valIx_set_ne h _ _ _ _
 have hrest:(st.writeT m t key v).k=st.k∧(st.writeT m t key v).v=st.v∧(st.writeT m t key v).c=st.c∧(st.writeT m t key v).recs=st.recs∧(st.writeT m t key v).ended=st.ended:=by
  unfold RS.writeT RS.setP RS.keepOld
  split<;>exact ⟨rfl,rfl,rfl,rfl,rfl⟩
 obtain ⟨r1,r2,r3,r4,r5⟩:=hrest
 refine ⟨r1,r2,r3,r4,r5,?_,?_,set_whos hm hu,hval,?_⟩
 ·refine txOf_at (n:=m) (uniq_set hm hu F.uniq) (List.getElem?_set_self hlt) (hu.trans hx)
 ·intro y hy
  exact set_find hm hu (by rw [hx]; exact hy)
 ·intro a k
  have htm:=List.mem_of_getElem? hm
  by_cases hk:a=x.lab∧k=key
  ·obtain ⟨ha,hkk⟩:=hk
   subst ha hkk
   cases ho:oldIx k t.olds with
   | some w =>
    have e1:=comm_known F I htm ho
    rw [hx] at e1
    rw [e1]
    have:commIx x.lab k (st.txns.set m { t.wrote st k with puts:=ps })=some w:=by
     rw [commIx_cg (l':=st.txns) (by simp) (fun j a b ha hb=>?_)]
     ·exact commIx_one htm (by rw [hx]) ho (fun u hu' hl hn=>I.alone htm hu' (by rw [hl,hx]) hn (by rw [ho]; rfl)) (fun u hu' h=>uniq_eq F htm hu' h)
     ·by_cases e:m=j
      ·subst e
       rw [List.getElem?_set_self hlt] at ha
       rw [hm] at hb
       cases ha; cases hb
       refine ⟨hu,fun _=>?_⟩
       show oldIx k (t.wrote st k).olds=_
       rw [wrote_old,ho]
      ·rw [List.getElem?_set_ne e] at ha
       rw [ha] at hb; cases hb
       exact ⟨rfl,fun _=>rfl⟩
    unfold RS.comm
    simp only [this]
    rfl
   | none =>
    have hnone:commIx x.lab k st.txns=none:=commIx_none2 (fun u hu' hl=>by
     by_cases e:u.who=x
     ·have:=uniq_eq F htm hu' (e.trans hx.symm)
      rw [this]; exact ho
     ·exact I.free H hu' hl e (Int.le_refl _) (Int.le_refl _))
    have hc:st.comm x.lab k=st.val x.lab k:=by unfold RS.comm; rw [hnone]; rfl
    rw [hc]
    have hmem:({ t.wrote st k with puts:=ps }:Tx)∈st.txns.set m { t.wrote st k with puts:=ps }:=List.mem_of_getElem? (List.getElem?_set_self hlt)
    have:commIx x.lab k (st.txns.set m { t.wrote st k with puts:=ps })=some (st.val x.lab k):=by
     refine commIx_one hmem (by rw [hu,hx]) (by show oldIx k (t.wrote st k).olds=_; rw [wrote_old,ho,hx]; simp) (fun u hu' hl hn=>?_) (fun u hu' h=>?_)
     ·rcases List.mem_or_eq_of_mem_set hu' with h | h
      ·exact I.free H h hl (by rw [← hx,← hu]; exact hn) (Int.le_refl _) (Int.le_refl _)
      ·exact absurd (by rw [h]) hn
     ·obtain ⟨j,hj⟩:=List.mem_iff_getElem?.1 hu'
      have:=uniq_set hm hu F.uniq j m u _ hj (List.getElem?_set_self hlt) h
      subst this
      rw [List.getElem?_set_self hlt] at hj
      exact (Option.some.inj hj).symm
    unfold RS.comm
    simp only [this]
    rfl
  ·unfold RS.comm
   have e:commIx a k (st.txns.set m { t.wrote st key with puts:=ps })=commIx a k st.txns:=by
    refine commIx_cg (by simp) (fun j b d hb hd=>?_)
    by_cases e:m=j
    ·subst e
     rw [List.getElem?_set_self hlt] at hb
     rw [hm] at hd
     cases hb; cases hd
     refine ⟨hu,fun hl=>?_⟩
     show oldIx k (t.wrote st key).olds=_
     rw [wrote_old]
     cases ho:oldIx k t.olds with
     | some w=>rfl
     | none =>
      simp only
      rw [if_neg (fun e=>hk ⟨by rw [← hl,hu,hx],e.symm⟩)]
    ·rw [List.getElem?_set_ne e] at hb
     rw [hb] at hd; cases hd
     exact ⟨rfl,fun _=>rfl⟩
   simp only [e]
   rw [show (({ st.writeT m t key v with txns:=st.txns.set m { t.wrote st key with puts:=ps } }:RS)).val a k=(st.writeT m t key v).val a k from rfl,hval,if_neg hk]
theorem toOpt_some (v:Int):(toOpt v).isSome=decide (0≤v):=by
 unfold toOpt
 by_cases h:0≤v
 ·simp [h]
 ·simp [h]
theorem toOpt_get {v:Int} (h:0≤v):toOpt v=some v:=by unfold toOpt; rw [if_pos h]
theorem wrOf_put {N:Nat} {st:RS} (F:st.Fit N) {q:Nat} (k:Int) (kk:Nat) (hk:k=(kk:Int)):((List.range 4).any fun i=>((st.trOf q).ses i).wr.put kk)=takIx (labOf q) k st.txns:=by
 subst hk
 rw [Bool.eq_iff_iff,List.any_eq_true]
 unfold takIx
 rw [List.any_eq_true]
 constructor
 ·rintro ⟨i,hi,h⟩
  have h':(st.wrOf (whoOf q i)).put kk=true:=h
  unfold RS.wrOf at h'
  cases ht:st.txOf (whoOf q i) with
  | none=>rw [ht] at h'; cases h'
  | some t =>
   rw [ht] at h'
   obtain ⟨h1,h2⟩:=txOf_mem ht
   refine ⟨t,h1,?_⟩
   have e:sameL t.who.1 t.who.2.1 (labOf q).1 (labOf q).2=true:=by rw [h2]; simp [sameL,whoOf]
   rw [e]; exact h'
 ·rintro ⟨t,ht,h⟩
  simp only [Bool.and_eq_true] at h
  obtain ⟨q',n',hq',hn',e⟩:=ok_who (F.who t ht)
  have hl:labOf q'=labOf q:=by
   have:=of_decide_eq_true h.1
   rw [e] at this
   exact Prod.ext this.1 this.2
  have hqq:=labOf_inj hl
  subst hqq
  refine ⟨n',List.mem_range.2 hn',?_⟩
  show (st.wrOf (whoOf q' n')).put kk=true
  obtain ⟨m,hm⟩:=List.mem_iff_getElem?.1 ht
  unfold RS.wrOf
  rw [txOf_at F.uniq hm e]
  exact h.2
theorem sim_taken {N:Nat} {st:RS} (F:st.Fit N) (q:Nat) (kk:Nat):(st.trOf q).takenB kk=st.taken (labOf q) (kk:Int):=by
 unfold Tr.takenB RS.taken
 rw [wrOf_put F (kk:Int) kk rfl]
 congr 1
 exact toOpt_some _
theorem sim_takenTo {N:Nat} {st:RS} (F:st.Fit N) (q:Nat):(st.trOf q).takenTo 16=st.takenTo (labOf q) 16:=by
 unfold Tr.takenTo RS.takenTo
 rw [show (st.trOf q).takenB=fun k:Nat=>st.taken (labOf q) (k:Int) from funext (fun k=>sim_taken F q k)]
theorem filterMap_cg {α β:Type} {f g:α→Option β}:∀ {l:List α},(∀ x∈l,f x=g x)→l.filterMap f=l.filterMap g
 | [],_=>rfl
 | a :: l,h=>by rw [List.filterMap_cons,List.filterMap_cons,h a (List.mem_cons_self),filterMap_cg (fun x hx=>h x (List.mem_cons_of_mem _ hx))]
theorem wrote_known {st:RS} {t:Tx} (key k:Int):knownB (t.wrote st key).olds k=(knownB t.olds k || decide (key=k)):=by
 rw [known_iff,known_iff,wrote_old]
 cases oldIx k t.olds with
 | some w=>rfl
 | none =>
  by_cases e:key=k
  ·simp [e]
  ·simp [e]
theorem touch_wrote {st:RS} {t:Tx} (kk:Nat):(fun k:Nat=>knownB (t.wrote st (kk:Int)).olds (k:Int))=upd (fun k:Nat=>knownB t.olds (k:Int)) kk true:=by
 funext k
 unfold upd
 rw [wrote_known]
 by_cases e:k=kk
 ·rw [if_pos e,e]; simp
 ·rw [if_neg e]
  have:¬ ((kk:Int)=(k:Int)):=by omega
  simp [this]
theorem left_wrote {st:RS} {t:Tx} (kk:Nat) (f g:Nat→Int) (v:Int) (hf:∀ k,f k=if k=kk then v else g k):(fun k:Nat=>if knownB (t.wrote st (kk:Int)).olds (k:Int)=true then toOpt (f k) else none)=upd (fun k:Nat=>if knownB t.olds (k:Int)=true then toOpt (g k) else none) kk (toOpt v):=by
 funext k
 unfold upd
 rw [wrote_known,hf]
 by_cases e:k=kk
 ·rw [if_pos e,if_pos e,e]; simp
 ·rw [if_neg e,if_neg e]
  have:¬ ((kk:Int)=(k:Int)):=by omega
  simp [this]
theorem window {α:Type} (g:Nat→Option α) {lo hi:Nat} (h1:lo≤hi) (h2:hi < 16):(List.range 16).filterMap (fun k=>if lo≤k∧k≤hi then g k else none)=(List.range (hi+1 - lo)).filterMap (fun i=>g (lo+i)):=by
 have e:List.range 16=List.range lo++((List.range (hi+1 - lo)).map (lo+·)++(List.range (15 - hi)).map (hi+1+·)):=by
  have a:List.range 16=List.range' 0 16:=List.range_eq_range'
  have b:List.range' 0 16=List.range' 0 lo++(List.range' lo (hi+1 - lo)++List.range' (hi+1) (15 - hi)):=by
   have c1:=List.range'_append_1 (s:=lo) (m:=hi+1 - lo) (n:=15 - hi)
   have c2:=List.range'_append_1 (s:=0) (m:=lo) (n:=hi+1 - lo+(15 - hi))
   rw [show lo+(hi+1 - lo)=hi+1 by omega] at c1
   rw [c1]
   rw [show 0+lo=lo by omega] at c2
   rw [c2]
   congr 1
   omega
  rw [a,b,List.range_eq_range',List.range'_eq_map_range (s:=lo),List.range'_eq_map_range (s:=hi+1)]
 rw [e,List.filterMap_append,List.filterMap_append,List.filterMap_map,List.filterMap_map]
 have n1:(List.range lo).filterMap (fun k=>if lo≤k∧k≤hi then g k else none)=[]:=by
  rw [List.filterMap_eq_nil_iff]
  intro k hk
  have:=List.mem_range.1 hk
  rw [if_neg (by omega)]
 have n2:(List.range (15 - hi)).filterMap ((fun k=>if lo≤k∧k≤hi then g k else none) ∘ (hi+1+·))=[]:=by
  rw [List.filterMap_eq_nil_iff]
  intro k hk
  simp only [Function.comp]
  rw [if_neg (by omega)]
 rw [n1,n2,List.nil_append,List.append_nil]
 refine filterMap_cg (fun i hi'=>?_)
 have:=List.mem_range.1 hi'
 simp only [Function.comp]
 rw [if_pos (by omega)]
theorem listTo_window (T:Nat→Option Int) {lo hi:Nat} (h1:lo≤hi) (h2:hi < 16):listTo T (lo:Int) (hi:Int) 16=(List.range (hi+1 - lo)).filterMap (fun i=>(T (lo+i)).map (fun v=>(((lo+i:Nat):Int),v))):=by
 rw [← window (fun k=>(T k).map (fun v=>((k:Int),v))) h1 h2]
 unfold listTo
 refine filterMap_cg (fun k _=>?_)
 unfold pickV
 cases hT:T k with
 | none=>simp
 | some v =>
  by_cases hk:lo≤k∧k≤hi
  ·rw [if_pos hk,if_pos ⟨rfl,by omega,by omega⟩]; rfl
  ·rw [if_neg hk,if_neg (by simp; omega)]
structure Ready (st:RS) (x:Stp) (q n:Nat) (t:Tx):Prop where
 who:x.who=whoOf q n
 hq:q < 32
 tx:st.txOf x.who=some t
 good:x.Good
 lab:labB x.at_.1 x.at_.2=true
 wr:x.op=4∨x.op=5→x.at_=x.who.lab
 holds:x.at_=x.who.lab→st.Holds x.who x.key x.hi (decide (x.op=4∨x.op=5))
 val:x.op=4→0≤x.value
theorem setT_same_of {st st':RS} {m:Nat} {t:Tx} {key v:Int} (hm:st.txns[m]?=some t) (h:st'={ st.writeT m t key v with txns:=st.txns.set m { t.wrote st key with puts:=t.puts } }):st'=st.writeT m t key v:=by
 rw [h]
 have h1:({ t.wrote st key with puts:=t.puts }:Tx)=t.wrote st key:=by
  have:=wrote_puts st t key
  cases hw:t.wrote st key
  rw [hw] at this
  simp only at this
  rw [this]
 rw [h1,← writeT_txns hm key v]
theorem sim_does {N:Nat} {st:RS} (F:st.Fit N) (I:st.Inv) {x:Stp} {q n:Nat} {t:Tx} (R:Ready st x q n t) :
  (st.does x).1.toPS=(st.toPS.grantT q n x).1∧(st.does x).2=(st.toPS.grantT q n x).2:=by
 obtain ⟨htm,htx⟩:=txOf_mem R.tx
 obtain ⟨m,hm⟩:=List.mem_iff_getElem?.1 htm
 rw [does_at F.uniq hm htx]
 obtain ⟨hop,⟨k0,k1⟩,hto⟩:=R.good
 obtain ⟨kk,hkk⟩:∃ kk:Nat,x.key=(kk:Int):=⟨x.key.toNat,by omega⟩
 have hk16:kk < 16:=by omega
 have htoN:x.key.toNat=kk:=by omega
 have hlq:x.who.lab=labOf q:=by rw [R.who]; rfl
 have hwro:st.wrOf x.who=wrtOf st t:=by unfold RS.wrOf; rw [R.tx]
 have hsw:∀ y,st.toPS.setW q n y=st.toPS.setW q n y:=fun _=>rfl
 have hwr0:((st.toPS.t q).ses n).wr=wrtOf st t:=by rw [toPS_ses,← R.who]; exact hwro
 unfold RS.job PS.grantT
 by_cases h4:x.op=4
 ·have h5:¬ x.op=5:=by omega
  rw [if_neg h5,if_pos h4,if_pos h4]
  have hat:x.at_=x.who.lab:=R.wr (.inl h4)
  have H:=R.holds hat
  have hhi:x.hi=x.key:=by unfold Stp.hi; rw [if_neg (by omega)]
  rw [hhi,decide_eq_true (.inl h4)] at H
  have hfull:st.full x=true↔((st.toPS.t q).takenB x.key.toNat=false∧st.toPS.k≤((st.toPS.t q).takenTo 16:Int)):=by
   unfold RS.full
   rw [htoN,toPS_t,sim_taken F,sim_takenTo F,hat,hlq,hkk]
   simp only [Bool.and_eq_true,Bool.not_eq_true',decide_eq_true_eq]
   rfl
  unfold PS.putT
  by_cases hf:st.full x=true
  ·rw [if_pos hf,if_pos (hfull.1 hf)]
   exact ⟨rfl,rfl⟩
  ·rw [if_neg hf,if_neg (fun h=>hf (hfull.2 h))]
   refine ⟨?_,rfl⟩
   have W:=wrote_is F I hm htx (v:=x.value) H (t.puts++[x.key])
   have e:st.putT m t x.key x.value={ st.writeT m t x.key x.value with txns:=st.txns.set m { t.wrote st x.key with puts:=t.puts++[x.key] } }:=by
    unfold RS.putT
    rw [writeT_txns hm,List.set_set]
   rw [e]
   rw [W.toPS I H R.who R.tx (by unfold Tx.wrote; split<;>exact ⟨rfl,rfl,rfl⟩)]
   congr 1
   rw [hwr0]
   unfold Wrt.putT
   rw [htoN]
   have e1:(wrtOf { st.writeT m t x.key x.value with txns:=st.txns.set m { t.wrote st x.key with puts:=t.puts++[x.key] } } { t.wrote st x.key with puts:=t.puts++[x.key] }).touched=upd (wrtOf st t).touched kk true:=by
    have:=touch_wrote (st:=st) (t:=t) kk
    rw [← hkk] at this
    exact this
   have e2:(wrtOf { st.writeT m t x.key x.value with txns:=st.txns.set m { t.wrote st x.key with puts:=t.puts++[x.key] } } { t.wrote st x.key with puts:=t.puts++[x.key] }).left=upd (wrtOf st t).left kk (some x.value):=by
    have:=left_wrote (st:=st) (t:=t) kk (fun k=>RS.val { st.writeT m t x.key x.value with txns:=st.txns.set m { t.wrote st x.key with puts:=t.puts++[x.key] } } (t.wrote st x.key).who.lab (k:Int)) (fun k=>st.val t.who.lab (k:Int)) x.value (fun k=>by
     rw [W.val,wrote_who,htx]
     by_cases e:k=kk
     ·rw [if_pos ⟨rfl,by omega⟩,if_pos e]
     ·rw [if_neg (fun h=>e (by have:=h.2; omega)),if_neg e])
    rw [toOpt_get (R.val h4),← hkk] at this
    exact this
   have e3:(wrtOf { st.writeT m t x.key x.value with txns:=st.txns.set m { t.wrote st x.key with puts:=t.puts++[x.key] } } { t.wrote st x.key with puts:=t.puts++[x.key] }).put=upd (wrtOf st t).put kk true:=by
    funext k
    show inB (t.puts++[x.key]) (k:Int)=upd (fun k:Nat=>inB t.puts (k:Int)) kk true k
    unfold upd inB
    rw [List.any_append]
    by_cases e:k=kk
    ·rw [if_pos e,e]; simp [hkk]
    ·rw [if_neg e]; simp [hkk]; intro h; omega
   rw [← e1,← e2,← e3]
 ·by_cases h5:x.op=5
  ·rw [if_pos h5,if_neg h4,if_pos h5]
   refine ⟨?_,rfl⟩
   have hat:x.at_=x.who.lab:=R.wr (.inr h5)
   have H:=R.holds hat
   have hhi:x.hi=x.key:=by unfold Stp.hi; rw [if_neg (by omega)]
   rw [hhi,decide_eq_true (.inr h5)] at H
   have W:=wrote_is F I hm htx (v:=-1) H t.puts
   rw [← setT_same_of hm rfl]
   rw [W.toPS I H R.who R.tx (by unfold Tx.wrote; split<;>exact ⟨rfl,rfl,rfl⟩)]
   dsimp only
   congr 1
   rw [hwr0]
   unfold Wrt.delT
   rw [htoN]
   have e1:(wrtOf { st.writeT m t x.key (-1) with txns:=st.txns.set m { t.wrote st x.key with puts:=t.puts } } { t.wrote st x.key with puts:=t.puts }).touched=upd (wrtOf st t).touched kk true:=by
    have:=touch_wrote (st:=st) (t:=t) kk
    rw [← hkk] at this
    exact this
   have e2:(wrtOf { st.writeT m t x.key (-1) with txns:=st.txns.set m { t.wrote st x.key with puts:=t.puts } } { t.wrote st x.key with puts:=t.puts }).left=upd (wrtOf st t).left kk none:=by
    have:=left_wrote (st:=st) (t:=t) kk (fun k=>RS.val { st.writeT m t x.key (-1) with txns:=st.txns.set m { t.wrote st x.key with puts:=t.puts } } (t.wrote st x.key).who.lab (k:Int)) (fun k=>st.val t.who.lab (k:Int)) (-1) (fun k=>by
     rw [W.val,wrote_who,htx]
     by_cases e:k=kk
     ·rw [if_pos ⟨rfl,by omega⟩,if_pos e]
     ·rw [if_neg (fun h=>e (by have:=h.2; omega)),if_neg e])
    rw [← hkk] at this
    exact this
   rw [← e1,← e2]
   rfl
  ·rw [if_neg h5,if_neg h4,if_neg h4,if_neg h5]
   refine ⟨rfl,?_⟩
   obtain ⟨hh,hhh⟩:∃ hh:Nat,x.hi=(hh:Int)∧kk≤hh∧hh < 16:=by
    unfold Stp.hi
    by_cases h3:x.op=3
    ·have:=hto h3; rw [if_pos h3]; exact ⟨x.to_.toNat,by omega,by omega,by omega⟩
    ·rw [if_neg h3]; exact ⟨kk,hkk,Nat.le_refl _,hk16⟩
   have htop:x.top=hh:=by
    unfold Stp.top
    have:=hhh.1
    unfold Stp.hi at this
    by_cases h3:x.op=3
    ·rw [if_pos h3] at this ⊢; omega
    ·rw [if_neg h3] at this ⊢; omega
   have hlo:(lkOf x).lo=(kk:Int):=hkk
   have hhi:(lkOf x).hi=(hh:Int):=hhh.1
   dsimp only
   congr 1
   rw [hlo,hhi,listTo_window _ hhh.2.1 hhh.2.2]
   unfold RS.reads RS.readTo
   rw [htop,htoN]
   refine filterMap_cg (fun i hi=>?_)
   have hi':=List.mem_range.1 hi
   have hs:st.toPS.seesT q n x.at_ (kk+i)=toOpt (st.sees (sameL x.who.1 x.who.2.1 x.at_.1 x.at_.2) x.at_ ((kk+i:Nat):Int)):=by
    unfold PS.seesT RS.sees
    rw [show sameL x.who.1 x.who.2.1 x.at_.1 x.at_.2=(x.who.lab == x.at_) from sameL_eq x.who.lab x.at_]
    by_cases ha:x.at_=labOf q
    ·have e:(x.who.lab == x.at_)=true:=by rw [hlq,ha]; simp
     rw [if_pos ha,e,ha,plOf_labOf R.hq,hwr0]
     simp only [if_true]
     unfold Wrt.over wrtOf
     simp only
     by_cases hkn:knownB t.olds ((kk+i:Nat):Int)=true
     ·rw [if_pos hkn,if_pos hkn,htx,hlq]
     ·rw [if_neg hkn]
      show toOpt (st.comm (labOf q) _)=_
      congr 1
      unfold RS.comm
      have H:=R.holds (by rw [ha,hlq])
      rw [commIx_none2 (fun u hu hl=>?_)]
      ·rfl
      ·by_cases e:u.who=x.who
       ·have:=uniq_eq F htm hu (e.trans htx.symm)
        rw [this]
        cases ho:oldIx ((kk+i:Nat):Int) t.olds with
        | none=>rfl
        | some v=>rw [known_iff,ho] at hkn; exact absurd rfl hkn
       ·exact I.free H hu (by rw [hl,hlq]) e (by rw [hkk]; omega) (by rw [hhh.1]; omega)
    ·have e:(x.who.lab == x.at_)=false:=by rw [hlq]; simp; exact fun h=>ha h.symm
     rw [if_neg ha,e]
     simp only [Bool.false_eq_true,if_false]
     show toOpt (st.comm (labOf (plOf x.at_)) _)=_
     rw [labOf_plOf R.lab]
   rw [hs]
   unfold seePick toOpt
   by_cases h0:0≤st.sees (sameL x.who.1 x.who.2.1 x.at_.1 x.at_.2) x.at_ ((kk+i:Nat):Int)
   ·rw [if_pos h0,if_pos h0]; rfl
   ·rw [if_neg h0,if_neg h0]; rfl
end Go.Proofs.Ytpbcplfpjcacfaa
