import Derived.Test.YtpbcplfpjcacfaaF15
namespace Go.Proofs.Ytpbcplfpjcacfaa
open Go.RowKit
set_option maxRecDepth 100000
set_option maxHeartbeats 8000000
theorem known_iff (k:Int):∀ l:List (Int × Int),knownB l k=(oldIx k l).isSome
 | []=>rfl
 | o :: l=>by
  have ih:=known_iff k l
  unfold knownB at ih ⊢
  rw [List.any_cons,ih,oldIx]
  by_cases h:o.1=k
  ·simp [h]
  ·simp [h]
theorem known_mem {k:Int} {l:List (Int × Int)} (h:knownB l k=true):∃ o∈l,o.1=k:=by
 unfold knownB at h
 obtain ⟨o,h1,h2⟩:=List.any_eq_true.1 h
 exact ⟨o,h1,by simpa using h2⟩
theorem val_back (a:Lab) (k:Int):∀ (l:List (Int × Int)) (st:RS),(backTo a l.reverse st).val a k=(oldIx k l).getD (st.val a k)
 | [],_=>rfl
 | o :: l,st=>by
  rw [List.reverse_cons,backTo_snoc,oldIx]
  by_cases h:o.1=k
  ·rw [if_pos h,← h]; exact valIx_set_same a o.1 o.2 _
  ·rw [if_neg h,← val_back a k l st]; exact valIx_set_key a (Ne.symm h) o.2 _
theorem commIx_none2 {a:Lab} {k:Int}:∀ {l:List Tx},(∀ t∈l,t.who.lab=a→oldIx k t.olds=none)→commIx a k l=none
 | [],_=>rfl
 | t :: l,h=>by
  by_cases e:t.who.lab=a
  ·rw [commIx_none (h t (List.mem_cons_self) e)]; exact commIx_none2 (fun u hu=>h u (List.mem_cons_of_mem _ hu))
  ·rw [commIx_other e]; exact commIx_none2 (fun u hu=>h u (List.mem_cons_of_mem _ hu))
theorem commIx_one {a:Lab} {k v:Int}:∀ {l:List Tx} {t:Tx},t∈l→t.who.lab=a→oldIx k t.olds=some v→(∀ u∈l,u.who.lab=a→u.who≠t.who→oldIx k u.olds=none)→(∀ u∈l,u.who=t.who→u=t)→commIx a k l=some v
 | [],_,h,_,_,_,_=>by cases h
 | u :: l,t,h,h1,h2,h3,h4=>by
  by_cases e:u.who=t.who
  ·have:=h4 u (List.mem_cons_self) e
   rw [this]; exact commIx_some h1 h2
  ·have hl:t∈l:=by
    rcases List.mem_cons.1 h with h' | h'
    ·exact absurd (by rw [h']) e
    ·exact h'
   by_cases ea:u.who.lab=a
   ·rw [commIx_none (h3 u (List.mem_cons_self) ea e)]
    exact commIx_one hl h1 h2 (fun w hw=>h3 w (List.mem_cons_of_mem _ hw)) (fun w hw=>h4 w (List.mem_cons_of_mem _ hw))
   ·rw [commIx_other ea]
    exact commIx_one hl h1 h2 (fun w hw=>h3 w (List.mem_cons_of_mem _ hw)) (fun w hw=>h4 w (List.mem_cons_of_mem _ hw))
theorem RS.Inv.alone {st:RS} (I:st.Inv) {t u:Tx} (ht:t∈st.txns) (hu:u∈st.txns) (hl:u.who.lab=t.who.lab) (hn:u.who≠t.who) {k:Int} (hk:(oldIx k t.olds).isSome=true):oldIx k u.olds=none:=by
 cases h:oldIx k u.olds with
 | none=>rfl
 | some v =>
  exfalso
  obtain ⟨o,ho,hok⟩:=known_mem ((known_iff k t.olds).trans hk)
  obtain ⟨o',ho',hok'⟩:=known_mem ((known_iff k u.olds).trans (by rw [h]; rfl))
  obtain ⟨c,hc,c1,c2,c3,c4,c5,c6⟩:=I.cover t ht o ho
  obtain ⟨d,hd,d1,d2,d3,d4,d5,d6⟩:=I.cover u hu o' ho'
  have:=I.excl c hc d hd c2 d2 (by rw [c4,c1]) (by rw [d1,c1,hl]) (by rw [c1,d1]; exact Ne.symm hn)
  unfold meetB at this
  have e1:sameL c.at_.1 c.at_.2 d.at_.1 d.at_.2=true:=by unfold sameL; rw [c4,d4,hl]; simp
  rw [e1,c3] at this
  simp at this
  omega
theorem uniq_eq {N:Nat} {st:RS} (F:st.Fit N) {t u:Tx} (ht:t∈st.txns) (hu:u∈st.txns) (h:u.who=t.who):u=t:=by
 obtain ⟨m,hm⟩:=List.mem_iff_getElem?.1 ht
 obtain ⟨n,hn⟩:=List.mem_iff_getElem?.1 hu
 have:=F.uniq n m u t hn hm h
 subst this
 rw [hm] at hn; exact (Option.some.inj hn).symm
theorem txOf_mem {st:RS} {x:Wh} {t:Tx} (h:st.txOf x=some t):t∈st.txns∧t.who=x :=
 ⟨List.mem_of_find?_eq_some h,by have:=List.find?_some h; simpa using this⟩
theorem comm_known {N:Nat} {st:RS} (F:st.Fit N) (I:st.Inv) {t:Tx} (ht:t∈st.txns) {k v:Int} (hk:oldIx k t.olds=some v):st.comm t.who.lab k=v:=by
 unfold RS.comm
 rw [commIx_one ht rfl hk (fun u hu hl hn=>I.alone ht hu hl hn (by rw [hk]; rfl)) (fun u hu h=>uniq_eq F ht hu h)]
 rfl
theorem mem_off {st:RS} {x:Wh} {t:Tx} (h:t∈st.txns.filter (fun t=>t.who != x)):t∈st.txns∧t.who≠x:=by
 obtain ⟨h1,h2⟩:=List.mem_filter.1 h
 exact ⟨h1,by simpa using h2⟩
theorem commIx_filter {a:Lab} {k:Int} {x:Wh}:∀ {l:List Tx},(∀ t∈l,t.who=x→t.who.lab=a→oldIx k t.olds=none)→commIx a k (l.filter (fun t=>t.who != x))=commIx a k l
 | [],_=>rfl
 | t :: l,h=>by
  have ih:=commIx_filter (l:=l) (fun u hu=>h u (List.mem_cons_of_mem _ hu))
  by_cases e:t.who=x
  ·rw [List.filter_cons_of_neg (by simp [e]),ih]
   by_cases ea:t.who.lab=a
   ·rw [commIx_none (h t (List.mem_cons_self) e ea)]
   ·rw [commIx_other ea]
  ·rw [List.filter_cons_of_pos (by simpa using e),commIx,commIx,ih]
theorem ends_comm {N:Nat} {st:RS} (F:st.Fit N) (I:st.Inv) {x:Wh} {t:Tx} (ht:st.txOf x=some t) (b:Bool) (w:Int) (a:Lab) (k:Int) :
  (st.ends x b w).comm a k=if b=false∧a=x.lab∧knownB t.olds k=true then st.val a k else st.comm a k:=by
 obtain ⟨htm,htx⟩:=txOf_mem ht
 have hval:(st.ends x b w).val a k=if b=true∧a=x.lab then (oldIx k t.olds).getD (st.val a k) else st.val a k:=by
  unfold RS.ends
  rw [ht]
  cases b with
  | false =>
   rw [if_neg (c:=false=true∧a=x.lab) (by simp)]; rfl
  | true =>
   simp only [if_true,true_and]
   show valIx a k (backTo x.lab t.olds.reverse st).places=_
   by_cases e:a=x.lab
   ·rw [if_pos e,e]; exact val_back x.lab k t.olds st
   ·rw [if_neg e]; exact val_backTo_ne e k _ st
 have htx':(st.ends x b w).txns=st.txns.filter (fun t=>t.who != x):=by unfold RS.ends; rw [ht]
 unfold RS.comm
 rw [hval,htx']
 by_cases hk:a=x.lab∧knownB t.olds k=true
 ·obtain ⟨h1,h2⟩:=hk
  have h3:(oldIx k t.olds).isSome=true:=by rw [← known_iff]; exact h2
  obtain ⟨v,hv⟩:=Option.isSome_iff_exists.1 h3
  have hno:commIx a k (st.txns.filter (fun t=>t.who != x))=none:=commIx_none2 (fun u hu hl=>by
   obtain ⟨hu1,hu2⟩:=mem_off hu
   exact I.alone htm hu1 (by rw [hl,h1,htx]) (by rw [htx]; exact hu2) h3)
  rw [hno]
  cases b with
  | false=>rw [if_neg (by simp),if_pos ⟨rfl,h1,h2⟩]; rfl
  | true =>
   rw [if_pos ⟨rfl,h1⟩,if_neg (by simp),hv]
   have:=comm_known F I htm hv
   unfold RS.comm at this
   rw [htx,← h1] at this
   rw [this]; rfl
 ·rw [if_neg (c:=b=false∧a=x.lab∧knownB t.olds k=true) (fun h=>hk h.2)]
  have hnone:∀ u∈st.txns,u.who=x→u.who.lab=a→oldIx k u.olds=none:=fun u hu he hl=>by
   have:=uniq_eq F htm hu (he.trans htx.symm)
   rw [this]
   cases ho:oldIx k t.olds with
   | none=>rfl
   | some v=>exact absurd ⟨by rw [← hl,he],by rw [known_iff,ho]; rfl⟩ hk
  rw [commIx_filter hnone]
  by_cases hb:b=true∧a=x.lab
  ·rw [if_pos hb]
   have hkn:oldIx k t.olds=none:=by
    cases ho:oldIx k t.olds with
    | none=>rfl
    | some v=>exact absurd ⟨hb.2,by rw [known_iff,ho]; rfl⟩ hk
   rw [hkn]; rfl
  ·rw [if_neg hb]
theorem filter_who {l:List Rc} {x y:Wh} (h:y≠x):(l.filter (fun c=>c.who != x)).filter (fun c=>c.who == y)=l.filter (fun c=>c.who == y):=by
 rw [List.filter_filter]
 congr 1
 funext c
 by_cases e:c.who=y
 ·have:c.who≠x:=fun h'=>h (e.symm.trans h')
  simp [e,h]
 ·simp [e]
theorem find_off {l:List Tx} {x y:Wh} (h:y≠x):(l.filter (fun t=>t.who != x)).find? (fun t=>t.who == y)=l.find? (fun t=>t.who == y):=by
 rw [List.find?_filter]
 congr 1
 funext t
 by_cases e:t.who=y
 ·simp [e,h]
 ·simp [e]
theorem ends_parts {st:RS} {x:Wh} {t:Tx} (ht:st.txOf x=some t) (b:Bool) (w:Int):(st.ends x b w).txns=st.txns.filter (fun t=>t.who != x)∧(st.ends x b w).recs=st.recs.filter (fun c=>c.who != x)∧(st.ends x b w).ended=(if 0 < w then st.ended++[(x,w)] else st.ended)∧(st.ends x b w).k=st.k∧(st.ends x b w).v=st.v∧(st.ends x b w).c=st.c:=by
 rcases ends_rest st x b w with e | ⟨p,e⟩
 ·exfalso
  have:=congrArg RS.txns e
  unfold RS.ends at this
  rw [ht] at this
  obtain ⟨h1,h2⟩:=txOf_mem ht
  have h3:t∈st.txns.filter (fun t=>t.who != x):=by
   have:st.txns.filter (fun t=>t.who != x)=st.txns:=this
   rw [this]; exact h1
  exact (mem_off h3).2 h2
 ·rw [e]; exact ⟨rfl,rfl,rfl,rfl,rfl,rfl⟩
theorem ends_val_other {st:RS} (I:st.Inv) {x y:Wh} {t u:Tx} (ht:st.txOf x=some t) (hu:st.txOf y=some u) (hy:y≠x) (b:Bool) (w:Int) {k:Int} (hk:knownB u.olds k=true):(st.ends x b w).val y.lab k=st.val y.lab k:=by
 obtain ⟨htm,htx⟩:=txOf_mem ht
 obtain ⟨hum,hux⟩:=txOf_mem hu
 unfold RS.ends
 rw [ht]
 cases b with
 | false=>rfl
 | true =>
  simp only [if_true]
  show valIx y.lab k (backTo x.lab t.olds.reverse st).places=_
  by_cases e:y.lab=x.lab
  ·have:=val_back x.lab k t.olds st
   rw [e]
   have hn:oldIx k t.olds=none:=I.alone hum htm (by rw [htx,hux,e]) (by rw [htx,hux]; exact Ne.symm hy) (by rw [← known_iff]; exact hk)
   rw [hn] at this
   exact this
  ·exact val_backTo_ne e k _ st
theorem toldW_app {l:List (Wh × Int)} {x y:Wh} {w:Int} (h:y≠x):(l++[(x,w)]).find? (isW y)=l.find? (isW y):=by
 rw [List.find?_append]
 have:isW y (x,w)=false:=by
  cases hh:isW y (x,w) with
  | false=>rfl
  | true=>exact absurd ((isW_iff y (x,w)).1 hh).symm h
 simp [this]
theorem lsOff_filter {q n:Nat}:∀ {l:List Wh},(∀ y∈l,y.ok)→((l.filter (fun y=>y != whoOf q n)).filter (fun y=>y.lab == labOf q)).map numOf=lsOff ((l.filter (fun y=>y.lab == labOf q)).map numOf) n
 | [],_=>rfl
 | y :: l,h=>by
  have ih:=lsOff_filter (q:=q) (n:=n) (l:=l) (fun z hz=>h z (List.mem_cons_of_mem _ hz))
  unfold lsOff at ih ⊢
  obtain ⟨q',n',hq',hn',e⟩:=ok_who (h y (List.mem_cons_self))
  by_cases hl:y.lab=labOf q
  ·have hq:q'=q:=labOf_inj (by rw [← whoOf_lab q' n',← e,hl])
   subst hq
   by_cases hn:n'=n
   ·subst hn
    rw [List.filter_cons_of_neg (by simp [e]),ih,List.filter_cons_of_pos (by simp [hl]),List.map_cons,List.filter_cons_of_neg (by simp [e,numOf_whoOf])]
   ·have hne:y≠whoOf q' n:=fun h=>hn (whoOf_inj (e.symm.trans h)).2
    rw [List.filter_cons_of_pos (by simp [hne]),List.filter_cons_of_pos (by simp [hl]),List.filter_cons_of_pos (by simp [hl]),List.map_cons,List.map_cons,ih,List.filter_cons_of_pos (by simp [e,numOf_whoOf,hn])]
  ·have hne:y≠whoOf q n:=fun h=>hl (by rw [h]; rfl)
   rw [List.filter_cons_of_pos (by simp [hne]),List.filter_cons_of_neg (by simp [hl]),List.filter_cons_of_neg (by simp [hl]),ih]
theorem lsOff_other {q q' n:Nat} (hq:q'≠q):∀ {l:List Wh},((l.filter (fun y=>y != whoOf q n)).filter (fun y=>y.lab == labOf q'))=l.filter (fun y=>y.lab == labOf q')
 | []=>rfl
 | y :: l=>by
  have ih:=lsOff_other (n:=n) hq (l:=l)
  by_cases hl:y.lab=labOf q'
  ·have hne:y≠whoOf q n:=fun h=>hq (labOf_inj (by rw [← hl,h]; rfl))
   rw [List.filter_cons_of_pos (by simp [hne]),List.filter_cons_of_pos (by simp [hl]),List.filter_cons_of_pos (by simp [hl]),ih]
  ·by_cases hne:y=whoOf q n
   ·rw [List.filter_cons_of_neg (by simp [hne]),List.filter_cons_of_neg (by simp [hl]),ih]
   ·rw [List.filter_cons_of_pos (by simp [hne]),List.filter_cons_of_neg (by simp [hl]),List.filter_cons_of_neg (by simp [hl]),ih]
theorem begOf_whos (st:RS) (q:Nat):st.begOf q=((st.txns.map (·.who)).filter (fun y=>y.lab == labOf q)).map numOf:=by
 unfold RS.begOf
 rw [List.filter_map,List.map_map]
 rfl
theorem queOf_whos (st:RS) (q:Nat):st.queOf q=(((st.recs.filter (·.waits)).map (·.who)).filter (fun y=>y.lab == labOf q)).map numOf:=by
 unfold RS.queOf
 rw [List.filter_map,List.map_map,List.filter_filter]
 congr 2
 funext c
 exact Bool.and_comm _ _
theorem sim_ends {N:Nat} {st:RS} (F:st.Fit N) (I:st.Inv) {x:Wh} {q n:Nat} (hx:x=whoOf q n) {t:Tx} (ht:st.txOf x=some t) (b:Bool) (w:Int) (hw:0≤w) :
  (st.ends x b w).toPS=(if b then st.toPS else st.toPS.setI q ((st.wrOf x).over (st.itemOf q))).setT q ({ (if b then st.trOf q else { st.trOf q with items:=(st.wrOf x).over (st.itemOf q) }) with begun:=lsOff (st.begOf q) n,queue:=lsOff (st.queOf q) n,ses:=upd (st.trOf q).ses n { ses0 with ended:=w } }):=by
 obtain ⟨e1,e2,e3,e4,e5,e6⟩:=ends_parts ht b w
 obtain ⟨htm,htx⟩:=txOf_mem ht
 have hno:∀ e∈st.ended,e.1≠x:=fun e he h=>F.endT e he t htm (by rw [htx,h])
 have hbase:(if b then st.toPS else st.toPS.setI q ((st.wrOf x).over (st.itemOf q))).k=st.k∧True:=⟨by cases b<;>rfl,trivial⟩
 have hset:∀ T,(if b then st.toPS else st.toPS.setI q ((st.wrOf x).over (st.itemOf q))).setT q T=st.toPS.setT q T:=fun T=>by
  cases b with
  | true=>rfl
  | false=>simp only [Bool.false_eq_true,if_false]; unfold PS.setI; rw [setT_setT]
 rw [hset]
 have hses:∀ y,y≠x→(st.ends x b w).sesOf y=st.sesOf y:=fun y hy=>by
  refine sesOf_ext ?_ ?_ ?_ ?_
  ·rw [e2]; exact filter_who hy
  ·unfold RS.txOf; rw [e1]; exact find_off hy
  ·intro u hu k hk
   exact ends_val_other I ht hu hy b w hk
  ·unfold RS.toldW
   rw [e3]
   by_cases h0:0 < w
   ·rw [if_pos h0,toldW_app hy]
   ·rw [if_neg h0]
 have hsx:(st.ends x b w).sesOf x={ ses0 with ended:=w }:=by
  have h1:(st.ends x b w).txOf x=none:=by
   unfold RS.txOf; rw [e1]
   exact List.find?_eq_none.2 (fun u hu=>by have:=(mem_off hu).2; simpa using this)
  have h2:(st.ends x b w).recs.filter (fun c=>c.who == x)=[]:=by
   rw [e2,List.filter_filter]
   exact List.filter_eq_nil_iff.2 (fun c _=>by simp)
  have h3:(st.ends x b w).locksOf x=[]:=by
   unfold RS.locksOf
   rw [List.map_eq_nil_iff,List.filter_eq_nil_iff]
   intro c hc
   rw [e2] at hc
   have:=(List.mem_filter.1 hc).2
   simp at this
   simp [this]
  have h4:(st.ends x b w).waitB x=false:=by
   unfold RS.waitB
   rw [List.any_eq_false]
   intro c hc
   rw [e2] at hc
   have:=(List.mem_filter.1 hc).2
   simp at this
   simp [this]
  have h5:(st.ends x b w).toldW x=w:=by
   unfold RS.toldW
   rw [e3]
   have hn:st.ended.find? (isW x)=none:=List.find?_eq_none.2 (fun e he=>by
    intro hc; exact hno e he ((isW_iff x e).1 hc))
   by_cases h0:0 < w
   ·rw [if_pos h0,List.find?_append,hn]
    have:isW x (x,w)=true:=(isW_iff x (x,w)).2 rfl
    simp [this]
   ·rw [if_neg h0,hn]
    simp only
    omega
  unfold RS.sesOf RS.reqOf RS.outOf RS.wrOf RS.isReady
  rw [h1,h3,h4,h5]
  rfl
 refine toPS_at e4 e5 e6 (fun q' hq'=>?_) ?_
 ·refine trOf_ext (fun k=>?_) (fun m=>hses _ (fun h=>hq' (whoOf_inj (h.trans hx)).1)) ?_ ?_
  ·unfold RS.itemOf
   rw [ends_comm F I ht,if_neg (fun h=>hq' (labOf_inj (by rw [h.2.1,hx]; rfl)))]
  ·rw [begOf_whos,begOf_whos,e1]
   have:(st.txns.filter (fun t=>t.who != x)).map (·.who)=(st.txns.map (·.who)).filter (fun y=>y != x):=by rw [List.filter_map]; rfl
   rw [this,hx,lsOff_other hq']
  ·rw [queOf_whos,queOf_whos,e2]
   have:((st.recs.filter (fun c=>c.who != x)).filter (·.waits)).map (·.who)=((st.recs.filter (·.waits)).map (·.who)).filter (fun y=>y != x):=by
    rw [List.filter_map,List.filter_filter,List.filter_filter]
    congr 2
    funext c; exact Bool.and_comm _ _
   rw [this,hx,lsOff_other hq']
 ·have hB:(st.ends x b w).begOf q=lsOff (st.begOf q) n:=by
   rw [begOf_whos,begOf_whos,e1]
   have:(st.txns.filter (fun t=>t.who != x)).map (·.who)=(st.txns.map (·.who)).filter (fun y=>y != x):=by rw [List.filter_map]; rfl
   rw [this,hx,lsOff_filter]
   intro y hy
   obtain ⟨u,hu,rfl⟩:=List.mem_map.1 hy
   exact F.who u hu
  have hQ:(st.ends x b w).queOf q=lsOff (st.queOf q) n:=by
   rw [queOf_whos,queOf_whos,e2]
   have:((st.recs.filter (fun c=>c.who != x)).filter (·.waits)).map (·.who)=((st.recs.filter (·.waits)).map (·.who)).filter (fun y=>y != x):=by
    rw [List.filter_map,List.filter_filter,List.filter_filter]
    congr 2
    funext c; exact Bool.and_comm _ _
   rw [this,hx,lsOff_filter]
   intro y hy
   obtain ⟨c,hc,rfl⟩:=List.mem_map.1 hy
   exact F.recW (List.mem_filter.1 hc).1
  have hI:(st.ends x b w).itemOf q=if b then st.itemOf q else (st.wrOf x).over (st.itemOf q):=by
   funext k
   unfold RS.itemOf
   rw [ends_comm F I ht]
   cases b with
   | true=>simp
   | false =>
    simp only [Bool.false_eq_true,if_false,true_and]
    unfold Wrt.over RS.wrOf
    rw [ht]
    unfold wrtOf
    simp only
    by_cases hk:knownB t.olds (k:Int)=true
    ·rw [if_pos ⟨by rw [hx]; rfl,hk⟩,if_pos hk,if_pos hk,htx,hx]; rfl
    ·rw [if_neg (fun h=>hk h.2),if_neg hk]
  have hS:(fun m=>(st.ends x b w).sesOf (whoOf q m))=upd (st.trOf q).ses n { ses0 with ended:=w }:=by
   funext m
   unfold upd
   by_cases e:m=n
   ·rw [if_pos e,e,← hx]; exact hsx
   ·rw [if_neg e]; exact hses _ (fun h=>e (whoOf_inj (h.trans hx)).2)
  unfold RS.trOf
  rw [hI,hB,hQ]
  show Tr.mk _ (fun m=>(st.ends x b w).sesOf (whoOf q m)) _ _=_
  rw [hS]
  cases b<;>rfl
theorem sim_force {N:Nat} {st:RS} (F:st.Fit N) (I:st.Inv) {x:Wh} {q n:Nat} (hx:x=whoOf q n) {t:Tx} (ht:st.txOf x=some t) (w:Int) (hw:0≤w) :
  (st.ends x true w).toPS=st.toPS.setT q ((st.trOf q).forceT n w):=by
 rw [sim_ends F I hx ht true w hw]
 simp only [if_true]
 congr 1
 unfold Tr.forceT Tr.endT Tr.setS
 simp only [upd_upd]
 rfl
theorem sim_end {N:Nat} {st:RS} (F:st.Fit N) (I:st.Inv) {x:Wh} {q n:Nat} (hx:x=whoOf q n) {t:Tx} (ht:st.txOf x=some t) :
  (st.ends x true 0).toPS=st.toPS.setT q ((st.trOf q).endT n):=by
 rw [sim_ends F I hx ht true 0 (Int.le_refl _)]
 simp only [if_true]
 rfl
theorem sim_commit {N:Nat} {st:RS} (F:st.Fit N) (I:st.Inv) {x:Wh} {q n:Nat} (hx:x=whoOf q n) {t:Tx} (ht:st.txOf x=some t) :
  (st.ends x false 0).toPS=(st.toPS.setI q ((st.wrOf x).over (st.itemOf q))).setT q (((st.toPS.setI q ((st.wrOf x).over (st.itemOf q))).t q).endT n):=by
 rw [sim_ends F I hx ht false 0 (Int.le_refl _)]
 simp only [Bool.false_eq_true,if_false]
 congr 1
 unfold PS.setI
 rw [setT_t]
 rfl
theorem commIx_app {a:Lab} {k:Int} {t:Tx} (h:oldIx k t.olds=none):∀ l:List Tx,commIx a k (l++[t])=commIx a k l
 | []=>by rw [List.nil_append,commIx_none h]
 | u :: l=>by rw [List.cons_append,commIx,commIx,commIx_app h l]
theorem sim_begin {st:RS} {x:Wh} {q n:Nat} (hx:x=whoOf q n) (ht:st.txOf x=none):(st.beginT x).toPS=st.toPS.setB q ((st.trOf q).begun++[n]):=by
 have htx:∀ y,y≠x→(st.beginT x).txOf y=st.txOf y:=fun y hy=>by
  unfold RS.txOf RS.beginT
  rw [List.find?_append]
  have:((newTx x (st.begun+1)).who == y)=false:=by simp [newTx]; exact fun h=>hy h.symm
  simp [this]
 have htx2:(st.beginT x).txOf x=some (newTx x (st.begun+1)):=by
  unfold RS.txOf at ht ⊢
  unfold RS.beginT
  rw [List.find?_append,ht]
  simp [newTx]
 have hc:∀ a k,(st.beginT x).comm a k=st.comm a k:=fun a k=>by
  unfold RS.comm RS.beginT
  rw [commIx_app rfl]
  rfl
 have hses:∀ y,(st.beginT x).sesOf y=st.sesOf y:=fun y=>by
  by_cases hy:y=x
  ·subst hy
   unfold RS.sesOf RS.reqOf RS.outOf RS.wrOf RS.stepOf RS.isReady
   rw [htx2,ht]
   rfl
  ·exact sesOf_ext rfl (htx y hy) (fun _ _ _ _=>rfl) rfl
 have hbeg:∀ q',(st.beginT x).begOf q'=if q'=q then st.begOf q++[n] else st.begOf q':=fun q'=>by
  unfold RS.begOf RS.beginT
  rw [List.filter_append,List.map_append]
  by_cases e:q'=q
  ·rw [if_pos e,e]
   congr 1
   have:(newTx x (st.begun+1)).who=whoOf q n:=hx
   rw [List.filter_cons_of_pos (by rw [this]; simp [whoOf_lab])]
   simp [this,numOf_whoOf]
  ·rw [if_neg e]
   have:(newTx x (st.begun+1)).who=whoOf q n:=hx
   rw [List.filter_cons_of_neg (by rw [this,whoOf_lab]; simp; exact fun h=>e (labOf_inj h).symm)]
   simp
 refine toPS_at rfl rfl rfl (fun q' hq'=>trOf_ext (fun k=>by unfold RS.itemOf; rw [hc]) (fun m=>hses _) (by rw [hbeg,if_neg hq']) rfl) ?_
 unfold RS.trOf
 rw [hbeg,if_pos rfl,show (st.beginT x).itemOf q=st.itemOf q from funext (fun k=>by unfold RS.itemOf; rw [hc]),show (fun n=>(st.beginT x).sesOf (whoOf q n))=fun n=>st.sesOf (whoOf q n) from funext (fun m=>hses _)]
 rfl
theorem sameW_eq (y x:Wh):sameW y.1 y.2.1 y.2.2 x.1 x.2.1 x.2.2=(y == x):=by
 by_cases h:y=x
 ·subst h; rw [sameW_t rfl]; simp
 ·rw [sameW_f h]; simp [h]
theorem sameL_eq (a b:Lab):sameL a.1 a.2 b.1 b.2=(a == b):=by
 by_cases h:a=b
 ·subst h; simp [sameL]
 ·have:¬ (a.1=b.1∧a.2=b.2):=fun e=>h (Prod.ext e.1 e.2)
  unfold sameL
  rw [decide_eq_false this]
  simp [h]
theorem isWt_eq (x:Wh) (c:Rc):isWt x c=(c.who == x && c.waits):=by
 unfold isWt
 rw [sameW_eq,Bool.and_comm]
theorem waitB_rec {st:RS} {x:Wh}:st.waitB x=(st.waitRec x).isSome:=by
 unfold RS.waitB RS.waitRec
 have:∀ l:List Rc,l.any (fun c=>c.who == x && c.waits)=(l.find? (isWt x)).isSome:=by
  intro l
  induction l with
  | nil=>rfl
  | cons c l ih =>
   rw [List.any_cons,List.find?_cons,ih,isWt_eq]
   cases c.who == x && c.waits<;>rfl
 exact this st.recs
theorem addRec_other {st:RS} {c:Rc} {y:Wh} (h:y≠c.who):(st.addRec c).sesOf y=st.sesOf y :=
 sesOf_ext (by
  unfold RS.addRec
  rw [List.filter_append,List.filter_cons_of_neg (by simp; exact fun e=>h e.symm)]; simp) rfl (fun _ _ _ _=>rfl) rfl
theorem addRec_que {st:RS} {c:Rc} {q n:Nat} (hc:c.who=whoOf q n) (q':Nat):(st.addRec c).queOf q'=if q'=q∧c.waits=true then st.queOf q'++[n] else st.queOf q':=by
 unfold RS.queOf RS.addRec
 rw [List.filter_append,List.map_append]
 by_cases h:q'=q∧c.waits=true
 ·rw [if_pos h,h.1,List.filter_cons_of_pos (by rw [hc,h.2]; simp [whoOf_lab])]
  simp [hc,numOf_whoOf]
 ·rw [if_neg h,List.filter_cons_of_neg]
  ·simp
  ·rw [hc,whoOf_lab]
   simp
   intro hw e
   exact h ⟨(labOf_inj e).symm,hw⟩
theorem sim_take {st:RS} {x:Stp} {q n:Nat} (hx:x.who=whoOf q n):(st.addRec (st.askR x)).toPS=st.toPS.addLock q n (lkOf x):=by
 have h:=toPS_one (st:=st) (st':=st.addRec (st.askR x)) (x:=x.who) hx rfl rfl rfl (fun _ _=>rfl) (fun _=>rfl) (fun q'=>by rw [addRec_que (q:=q) (n:=n) hx]; rw [if_neg (by intro h; cases h.2)]) (fun y hy=>addRec_other hy)
 rw [h]
 unfold PS.addLock
 rw [toPS_ses,← hx]
 congr 1
 unfold RS.sesOf
 have h1:(st.addRec (st.askR x)).locksOf x.who=st.locksOf x.who++[lkOf x]:=by
  unfold RS.locksOf RS.addRec
  rw [List.filter_append,List.map_append,List.filter_cons_of_pos (by simp [RS.askR])]
  rfl
 have h2:(st.addRec (st.askR x)).waitB x.who=st.waitB x.who:=by
  unfold RS.waitB RS.addRec
  rw [List.any_append]
  simp [RS.askR]
 have h3:(st.addRec (st.askR x)).reqOf x.who=st.reqOf x.who:=by unfold RS.reqOf; rw [h2]; rfl
 rw [h1,h3]
 rfl
theorem sim_park {st:RS} {x:Stp} {q n:Nat} (hx:x.who=whoOf q n) {t:Tx} (ht:st.txOf x.who=some t):((st.addRec (st.askR x).on).setStep x).toPS=st.toPS.setT q ((st.trOf q).joinT n x):=by
 have hf:∀ t:Tx,({ t with step:=x }:Tx).who=t.who:=fun _=>rfl
 have e:(st.addRec (st.askR x).on).setStep x=(st.addRec (st.askR x).on).mapTx x.who (fun t=>{ t with step:=x }):=rfl
 rw [e,mapTx_toPS hf (fun _=>rfl) hx]
 have htx:=mapTx_same (st:=st.addRec (st.askR x).on) (x:=x.who) hf
 rw [show (st.addRec (st.askR x).on).txOf x.who=some t from ht] at htx
 have hs:((st.addRec (st.askR x).on).mapTx x.who (fun t=>{ t with step:=x })).sesOf x.who={ st.sesOf x.who with req:=x }:=by
  have h1:(st.addRec (st.askR x).on).locksOf x.who=st.locksOf x.who:=by
   unfold RS.locksOf RS.addRec
   rw [List.filter_append,List.filter_cons_of_neg (by simp [RS.askR,Rc.on])]
   simp
  have h2:(st.addRec (st.askR x).on).waitB x.who=true:=by
   unfold RS.waitB RS.addRec
   rw [List.any_append]
   simp [RS.askR,Rc.on]
  unfold RS.sesOf RS.reqOf RS.outOf RS.wrOf RS.stepOf RS.isReady RS.toldOf
  rw [htx,ht,show ((st.addRec (st.askR x).on).mapTx x.who (fun t=>{ t with step:=x })).locksOf x.who=(st.addRec (st.askR x).on).locksOf x.who from rfl,h1,show ((st.addRec (st.askR x).on).mapTx x.who (fun t=>{ t with step:=x })).waitB x.who=(st.addRec (st.askR x).on).waitB x.who from rfl,h2]
  rfl
 rw [hs]
 have h0:(st.addRec (st.askR x).on).toPS.setS q n { st.sesOf x.who with req:=x }=st.toPS.setT q ((st.trOf q).joinT n x):=by
  have hT:((st.addRec (st.askR x).on).trOf q).setS n { st.sesOf x.who with req:=x }=(st.trOf q).joinT n x:=by
   unfold Tr.setS Tr.joinT RS.trOf
   rw [addRec_que (q:=q) (n:=n) hx,if_pos ⟨rfl,rfl⟩]
   congr 1
   funext m
   show upd (fun n=>(st.addRec (st.askR x).on).sesOf (whoOf q n)) n { st.sesOf x.who with req:=x } m=upd (fun n=>st.sesOf (whoOf q n)) n _ m
   unfold upd
   by_cases e:m=n
   ·rw [if_pos e,if_pos e,hx]
   ·rw [if_neg e,if_neg e]
    exact addRec_other (fun h=>e (whoOf_inj (h.trans hx)).2)
  unfold PS.setS
  rw [toPS_t,hT]
  unfold RS.toPS PS.setT
  congr 1
  funext q'
  unfold upd
  by_cases e:q'=q
  ·rw [if_pos e,if_pos e]
  ·rw [if_neg e,if_neg e]
   exact trOf_ext (fun _=>rfl) (fun m=>addRec_other (fun h=>e (whoOf_inj (h.trans hx)).1)) rfl (by rw [addRec_que (q:=q) (n:=n) hx,if_neg (fun h=>e h.1)])
 exact h0
theorem split_at {α:Type} {l:List α} {j:Nat} {c:α} (h:l[j]?=some c):l=l.take j++c :: l.drop (j+1):=by
 rw [← drop_at h,List.take_append_drop]
theorem set_at {α:Type} {l:List α} {j:Nat} {c:α} (h:l[j]?=some c) (d:α):l.set j d=l.take j++d :: l.drop (j+1):=by
 rw [List.set_eq_take_append_cons_drop,if_pos (List.getElem?_eq_some_iff.1 h).1]
theorem RS.Inv.split {st:RS} (I:st.Inv) {j:Nat} {c:Rc} (h:st.recs[j]?=some c) (hw:c.waits=true):(∀ d∈st.recs.take j,d.who=c.who→d.waits=false)∧∀ d∈st.recs.drop (j+1),d.who≠c.who:=by
 have hp:=I.last
 rw [split_at h,List.pairwise_append] at hp
 obtain ⟨_,h2,h3⟩:=hp
 refine ⟨fun d hd e=>h3 d hd c (List.mem_cons_self) e,fun d hd e=>?_⟩
 have:=(List.pairwise_cons.1 h2).1 d hd e.symm
 rw [hw] at this; cases this
section
variable {N:Nat} {st:RS} {j:Nat} {c:Rc} {q n:Nat}
theorem off_locks (I:st.Inv) (hj:st.recs[j]?=some c) (hw:c.waits=true):(st.offAt j c).locksOf c.who=st.locksOf c.who++[rcLk c]:=by
 obtain ⟨h1,h2⟩:=I.split hj hw
 unfold RS.locksOf RS.offAt
 have hB:(st.recs.drop (j+1)).filter (fun d=>d.who == c.who && !d.waits)=[]:=List.filter_eq_nil_iff.2 (fun d hd=>by simp [h2 d hd])
 rw [set_at hj,List.filter_append,List.filter_cons_of_pos (by simp [Rc.off]),hB]
 conv=>rhs; rw [split_at hj,List.filter_append,List.filter_cons_of_neg (by simp [hw]),hB]
 simp [rcLk,Rc.off]
theorem off_wait (I:st.Inv) (hj:st.recs[j]?=some c) (hw:c.waits=true):(st.offAt j c).waitB c.who=false:=by
 obtain ⟨h1,h2⟩:=I.split hj hw
 unfold RS.waitB RS.offAt
 rw [set_at hj,List.any_eq_false]
 intro d hd
 rcases List.mem_append.1 hd with h | h
 ·by_cases e:d.who=c.who
  ·simp [h1 d h e]
  ·simp [e]
 ·rcases List.mem_cons.1 h with h | h
  ·subst h; simp [Rc.off]
  ·simp [h2 d h]
theorem off_filter (hj:st.recs[j]?=some c) {y:Wh} (h:y≠c.who):(st.offAt j c).recs.filter (fun d=>d.who == y)=st.recs.filter (fun d=>d.who == y):=by
 unfold RS.offAt
 have hn:¬ c.who=y:=fun e=>h e.symm
 rw [set_at hj]
 conv=>rhs; rw [split_at hj]
 rw [List.filter_append,List.filter_append,List.filter_cons_of_neg (by simp [Rc.off,hn]),List.filter_cons_of_neg (by simp [hn])]
theorem off_whos (F:st.Fit N) (hj:st.recs[j]?=some c) (hw:c.waits=true):((st.offAt j c).recs.filter (·.waits)).map (·.who)=((st.recs.filter (·.waits)).map (·.who)).filter (fun y=>y != c.who):=by
 have hu:=F.waitsU
 have e1:(st.recs.filter (·.waits)).map (·.who)=((st.recs.take j).filter (·.waits)).map (·.who)++c.who :: ((st.recs.drop (j+1)).filter (·.waits)).map (·.who):=by
  conv=>lhs; rw [split_at hj,List.filter_append,List.filter_cons_of_pos (by simpa using hw),List.map_append,List.map_cons]
 have e2:((st.offAt j c).recs.filter (·.waits)).map (·.who)=((st.recs.take j).filter (·.waits)).map (·.who)++((st.recs.drop (j+1)).filter (·.waits)).map (·.who):=by
  unfold RS.offAt
  rw [set_at hj,List.filter_append,List.filter_cons_of_neg (by simp [Rc.off]),List.map_append]
 rw [e1] at hu
 rw [e1,e2]
 rw [List.nodup_append] at hu
 obtain ⟨_,hu2,hu3⟩:=hu
 obtain ⟨hu4,_⟩:=List.nodup_cons.1 hu2
 rw [List.filter_append,List.filter_cons_of_neg (by simp)]
 congr 1
 ·refine (List.filter_eq_self.2 fun y hy=>?_).symm
  have:=hu3 y hy c.who (List.mem_cons_self)
  simpa using this
 ·refine (List.filter_eq_self.2 fun y hy=>?_).symm
  have:y≠c.who:=fun e=>hu4 (e ▸ hy)
  simpa using this
theorem off_que (F:st.Fit N) (hj:st.recs[j]?=some c) (hw:c.waits=true) (hc:c.who=whoOf q n) (q':Nat):(st.offAt j c).queOf q'=if q'=q then lsOff (st.queOf q) n else st.queOf q':=by
 rw [queOf_whos,off_whos F hj hw,hc]
 by_cases e:q'=q
 ·rw [if_pos e,e,lsOff_filter,queOf_whos]
  intro y hy
  obtain ⟨d,hd,rfl⟩:=List.mem_map.1 hy
  exact F.recW (List.mem_filter.1 hd).1
 ·rw [if_neg e,lsOff_other e,queOf_whos]
theorem sim_off (F:st.Fit N) (I:st.Inv) (hj:st.recs[j]?=some c) (hw:c.waits=true) (hc:c.who=whoOf q n):(st.offAt j c).toPS=(st.toPS.setT q ((st.trOf q).leaveT n)).addLock q n (rcLk c):=by
 have hoth:∀ y,y≠c.who→(st.offAt j c).sesOf y=st.sesOf y:=fun y hy=>sesOf_ext (off_filter hj hy) rfl (fun _ _ _ _=>rfl) rfl
 have hsx:(st.offAt j c).sesOf c.who={ st.sesOf c.who with req:=stp0,locks:=st.locksOf c.who++[rcLk c] }:=by
  unfold RS.sesOf RS.reqOf
  rw [off_locks I hj hw,off_wait I hj hw]
  rfl
 rw [← toPS_t,addLock_leave]
 refine toPS_at rfl rfl rfl (fun q' hq'=>trOf_ext (fun _=>rfl) (fun m=>hoth _ (fun h=>hq' (whoOf_inj (h.trans hc)).1)) rfl (by rw [off_que F hj hw hc,if_neg hq'])) ?_
 rw [toPS_t]
 unfold RS.trOf
 rw [off_que F hj hw hc,if_pos rfl]
 unfold Tr.setS Tr.leaveT
 simp only [upd_upd,upd_same]
 congr 1
 funext m
 unfold upd
 by_cases e:m=n
 ·rw [if_pos e,e,← hc,hsx]
  rfl
 ·rw [if_neg e]; exact hoth _ (fun h=>e (whoOf_inj (h.trans hc)).2)
end
end Go.Proofs.Ytpbcplfpjcacfaa
