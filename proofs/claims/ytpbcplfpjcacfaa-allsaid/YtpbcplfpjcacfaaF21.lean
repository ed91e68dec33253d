import Derived.Test.YtpbcplfpjcacfaaF20
namespace Go.Proofs.Ytpbcplfpjcacfaa
open Go.RowKit
set_option maxRecDepth 100000
set_option maxHeartbeats 8000000
theorem meet_low {st:RS} (I:st.Inv) {a c:Rc} (ha:a∈st.recs) (hc:c∈st.recs) {q:Nat} (hal:a.who.lab=labOf q) (hcl:c.who.lab=labOf q) (hno:c.at_≠labOf q):meetB a c=false:=by
 cases h:meetB a c with
 | false=>rfl
 | true =>
  exfalso
  unfold meetB at h
  rw [show sameL a.at_.1 a.at_.2 c.at_.1 c.at_.2=(a.at_ == c.at_) from sameL_eq _ _] at h
  simp only [Bool.and_eq_true,Bool.or_eq_true,beq_iff_eq] at h
  obtain ⟨⟨⟨h1,_⟩,_⟩,h2⟩:=h
  rcases h2 with h2 | h2
  ·exact hno (by rw [← h1,(I.low a ha).2 h2,hal])
  ·exact hno (by rw [(I.low c hc).2 h2,hcl])
theorem hind_o {N:Nat} {st:RS} (F:st.Fit N) (I:st.Inv) {c:Rc} (hc:c∈st.recs) (hw:c.waits=true) {q n:Nat} (o:Nat) (hx:c.who=whoOf q n) :
  (st.trOf q).hindB o n=(sameL c.at_.1 c.at_.2 (whoOf q n).1 (whoOf q n).2.1 && st.recs.any (forP (whoOf q o) c)):=by
 obtain ⟨t,ht,hwho,htx,hreq,hask⟩:=req_wait F hc hw
 have hlk:=asks_lk hask
 have hr:((st.trOf q).ses n).req=t.step:=by show (st.sesOf (whoOf q n)).req=_; rw [← hx]; exact hreq
 have hlab:c.who.lab=labOf q:=by rw [hx]; rfl
 have hcW:c∈st.recs.filter (fun c=>c.waits && c.who.lab == labOf q):=List.mem_filter.2 ⟨hc,by rw [hw,hlab]; simp⟩
 have hcn:numOf c.who=n:=by rw [hx,numOf_whoOf]
 have huniq:∀ a∈st.recs.filter (fun c=>c.waits && c.who.lab == labOf q),numOf a.who=n→a=c:=fun a ha hn=>by
  obtain ⟨h1,h2⟩:=List.mem_filter.1 ha
  simp only [Bool.and_eq_true,beq_iff_eq] at h2
  exact wait_one F h1 hc h2.1 hw (by rw [who_num (F.recW h1) h2.2 hn,hx])
 have hh:c.at_=labOf q→∀ a∈st.recs,(hindB a c=true↔a.who≠c.who∧a.who.lab=labOf q∧meetB a c=true∧(a.waits=false∨a.came < c.came)):=fun hown a ha=>by
  unfold hindB
  rw [sameW_eq,show sameL a.who.1 a.who.2.1 c.at_.1 c.at_.2=(a.who.lab == c.at_) from sameL_eq a.who.lab c.at_,show sameL c.who.1 c.who.2.1 c.at_.1 c.at_.2=(c.who.lab == c.at_) from sameL_eq c.who.lab c.at_,hlab,hown]
  by_cases h1:a.who=c.who
  ·simp [h1]
  ·by_cases h2:a.who.lab=labOf q
   ·by_cases h3:meetB a c=true
    ·cases hwa:a.waits<;>simp [h1,h2,h3]
    ·have h3':meetB a c=false:=by simpa using h3
     simp [h1,h2,h3']
   ·simp [h1,h2]
 have e0:sameL c.at_.1 c.at_.2 (whoOf q n).1 (whoOf q n).2.1=(c.at_ == labOf q):=sameL_eq c.at_ (labOf q)
 rw [e0,Bool.eq_iff_iff,Bool.and_eq_true,beq_iff_eq,List.any_eq_true]
 constructor
 ·intro h
  unfold Tr.hindB at h
  rw [hr,hlk] at h
  simp only [Bool.and_eq_true,Bool.not_eq_true',Bool.or_eq_true] at h
  obtain ⟨hne,h⟩:=h
  have hon:o≠n:=by simpa using hne
  have key:∃ a∈st.recs,a.who=whoOf q o∧meetB a c=true∧(a.waits=false∨a.came < c.came):=by
   rcases h with h | ⟨h1,h2⟩
   ·have h':(st.sesOf (whoOf q o)).metB (rcLk c)=true:=h
    rw [ses_met,List.any_eq_true] at h'
    obtain ⟨a,ha,hb⟩:=h'
    simp only [Bool.and_eq_true,beq_iff_eq,Bool.not_eq_true'] at hb
    exact ⟨a,ha,hb.1.1,hb.2,.inl hb.1.2⟩
   ·have h1':=(ahead_came hon (I.came.sublist List.filter_sublist) huniq hcW hcn).1 h1
    obtain ⟨a,haW,hao,hac⟩:=h1'
    obtain ⟨ha,ha2⟩:=List.mem_filter.1 haW
    simp only [Bool.and_eq_true,beq_iff_eq] at ha2
    have haw:a.who=whoOf q o:=who_num (F.recW ha) ha2.2 hao
    obtain ⟨t',_,_,_,hreq',hask'⟩:=req_wait F ha ha2.1
    have hr':((st.trOf q).ses o).req=t'.step:=by show (st.sesOf (whoOf q o)).req=_; rw [← haw]; exact hreq'
    rw [hr',asks_lk hask',lk_meet] at h2
    exact ⟨a,ha,haw,h2,.inr hac⟩
  obtain ⟨a,ha,h1,h2,h3⟩:=key
  have hown:c.at_=labOf q:=Classical.byContradiction fun hno=>by
   have:=meet_low I ha hc (by rw [h1]; rfl) hlab hno
   rw [h2] at this; cases this
  refine ⟨hown,a,ha,?_⟩
  unfold forP
  rw [sameW_eq,(hh hown a ha).2 ⟨by rw [h1,hx]; exact fun e=>hon (whoOf_inj e).2,by rw [h1]; rfl,h2,h3⟩,h1]
  simp
 ·rintro ⟨hown,a,ha,h⟩
  unfold forP at h
  rw [sameW_eq,Bool.and_eq_true,beq_iff_eq] at h
  obtain ⟨hao,h⟩:=h
  obtain ⟨h1,h2,h3,h4⟩:=(hh hown a ha).1 h
  have hon:o≠n:=fun e=>h1 (by rw [hao,hx,e])
  unfold Tr.hindB
  rw [hr,hlk]
  have e1:(!(o == n))=true:=by simpa using hon
  rw [e1,Bool.true_and]
  cases hwa:a.waits with
  | false =>
   have:((st.trOf q).ses o).metB (rcLk c)=true:=by
    show (st.sesOf (whoOf q o)).metB (rcLk c)=true
    rw [ses_met,List.any_eq_true]
    exact ⟨a,ha,by rw [hao,hwa,h3]; simp⟩
   rw [this]; rfl
  | true =>
   have hac:a.came < c.came:=by
    rcases h4 with h4 | h4
    ·rw [hwa] at h4; cases h4
    ·exact h4
   have hah:aheadIn (st.trOf q).queue o n=true:=(ahead_came hon (I.came.sublist List.filter_sublist) huniq hcW hcn).2 ⟨a,List.mem_filter.2 ⟨ha,by rw [hwa,h2]; simp⟩,by rw [hao,numOf_whoOf],hac⟩
   obtain ⟨t',_,_,_,hreq',hask'⟩:=req_wait F ha hwa
   have hr':((st.trOf q).ses o).req=t'.step:=by show (st.sesOf (whoOf q o)).req=_; rw [← hao]; exact hreq'
   rw [hah,hr',asks_lk hask',lk_meet,h3]
   simp
theorem wait_que {N:Nat} {st:RS} (F:st.Fit N) {q n:Nat}:n∈st.queOf q↔∃ c∈st.recs,c.waits=true∧c.who=whoOf q n :=
 ⟨que_has F,fun ⟨c,h1,h2,h3⟩=>by have:=que_mem (q:=q) h1 h2 (by rw [h3]; rfl); rw [h3,numOf_whoOf] at this; exact this⟩
theorem rec_some {st:RS} {x:Wh} {c:Rc} (h:st.waitRec x=some c):c∈st.recs∧c.waits=true∧c.who=x:=by
 have h1:=List.mem_of_find?_eq_some h
 have h2:=List.find?_some h
 rw [isWt_eq,Bool.and_eq_true,beq_iff_eq] at h2
 exact ⟨h1,h2.2,h2.1⟩
theorem rec_none {st:RS} {x:Wh} (h:st.waitRec x=none) {c:Rc} (hc:c∈st.recs) (hx:c.who=x):c.waits=false:=by
 have:=List.find?_eq_none.1 h c hc
 rw [isWt_eq,hx] at this
 simpa using this
theorem first_wait {N:Nat} {st:RS} (F:st.Fit N) (I:st.Inv) {q n o:Nat} (ho:o < 4):(st.trOf q).firstHand n o=st.waitsFor (whoOf q n) (whoOf q o):=by
 rw [first_at _ _ _ ho]
 unfold RS.waitsFor
 cases h:st.waitRec (whoOf q n) with
 | none =>
  have:¬ n∈(st.trOf q).queue:=fun hm=>by
   obtain ⟨c,h1,h2,h3⟩:=(wait_que F).1 hm
   rw [rec_none h h1 h3] at h2; cases h2
  rw [if_neg this]
 | some c =>
  obtain ⟨h1,h2,h3⟩:=rec_some h
  rw [if_pos (show n∈(st.trOf q).queue from (wait_que F).2 ⟨c,h1,h2,h3⟩),hind_o F I h1 h2 o h3]
theorem leads_way {N:Nat} {st:RS} (F:st.Fit N) (I:st.Inv) {q:Nat}:∀ k a b,b < 4→st.leads k (whoOf q a) (whoOf q b)=leadW (st.trOf q).firstHand k a b
 | 0,_,_,_=>rfl
 | k+1,a,b,hb=>by
  rw [leads_succ,leadW,first_wait F I hb]
  congr 1
  have e:∀ j,j < 4→ledP st k (whoOf q a) (whoOf q b) j=((st.trOf q).firstHand a j && leadW (st.trOf q).firstHand k j b):=fun j hj=>by
   rw [first_wait F I hj,← leads_way F I k j b hb]; rfl
  rw [Bool.eq_iff_iff,List.any_eq_true,List.any_eq_true]
  constructor
  ·rintro ⟨j,hj,h⟩; exact ⟨j,hj,by rw [← e j (List.mem_range.1 hj)]; exact h⟩
  ·rintro ⟨j,hj,h⟩; exact ⟨j,hj,by rw [e j (List.mem_range.1 hj)]; exact h⟩
theorem closed_leads {N:Nat} {st:RS} (F:st.Fit N) (I:st.Inv) {q a b:Nat} (ha:a < 4) (hb:b < 4):(st.trOf q).firstHand.closed a b=st.leads 4 (whoOf q a) (whoOf q b):=by
 rw [closed_lead _ ha hb,leads_way F I 4 a b hb]
theorem live_some {st:RS} {x:Wh}:0≤st.live x↔∃ t∈st.txns,t.who=x:=by
 rcases live_cases st x with ⟨h1,h2⟩ | ⟨m,t,h1,h2,h3⟩
 ·rw [h1]
  exact ⟨fun h=>by omega,fun ⟨t,ht,e⟩=>absurd e (h2 t ht)⟩
 ·rw [h1]
  exact ⟨fun _=>⟨t,List.mem_of_getElem? h2,h3⟩,fun _=>by omega⟩
theorem ring_in {N:Nat} {st:RS} (F:st.Fit N) (I:st.Inv) {q n m:Nat} (hn:n < 4) (hm:m < 4):st.inRing (whoOf q n) (whoOf q m)=true↔(∃ t∈st.txns,t.who=whoOf q m)∧((st.trOf q).firstHand.closed n m && (st.trOf q).firstHand.closed m n)=true:=by
 unfold RS.inRing
 rw [closed_leads F I hn hm,closed_leads F I hm hn,Bool.and_eq_true,decide_eq_true_eq,live_some]
def RingBest (st:RS) (x:Wh) (k:Nat):Prop:=match st.ringTo x k with
 | none=>∀ m:Nat,m < k→st.inRing x (x.1,x.2.1,(m:Int))=false
 | some b=>∃ t,∃ m:Nat,m < k∧st.txns[b]?=some t∧t.who=(x.1,x.2.1,(m:Int))∧st.inRing x t.who=true∧∀ m':Nat,m' < k→st.inRing x (x.1,x.2.1,(m':Int))=true→∀ u∈st.txns,u.who=(x.1,x.2.1,(m':Int))→u.nth≤t.nth
theorem ring_best {N:Nat} {st:RS} (F:st.Fit N) (x:Wh):∀ k,RingBest st x k
 | 0=>fun m h=>by omega
 | k+1=>by
  have ih:=ring_best F x k
  unfold RingBest at ih ⊢
  rw [RS.ringTo]
  cases hin:st.inRing x (x.1,x.2.1,(k:Int)) with
  | false =>
   rw [Bool.false_and,if_neg (by simp)]
   cases hr:st.ringTo x k with
   | none =>
    rw [hr] at ih
    intro m hm
    rcases Nat.lt_or_ge m k with h | h
    ·exact ih m h
    ·rw [show m=k by omega]; exact hin
   | some b =>
    rw [hr] at ih
    obtain ⟨t,m,h1,h2,h3,h4,h5⟩:=ih
    refine ⟨t,m,by omega,h2,h3,h4,fun m' hm' hi u hu huw=>?_⟩
    rcases Nat.lt_or_ge m' k with h | h
    ·exact h5 m' h hi u hu huw
    ·rw [show m'=k by omega,hin] at hi; cases hi
  | true =>
   rw [Bool.true_and]
   have hl:0≤st.live (x.1,x.2.1,(k:Int)):=by
    unfold RS.inRing at hin
    simp only [Bool.and_eq_true,decide_eq_true_eq] at hin
    exact hin.1
   rcases live_cases st (x.1,x.2.1,(k:Int)) with ⟨h1,_⟩ | ⟨i,t,h1,h2,h3⟩
   ·omega
   ·rw [h1,Int.toNat_natCast]
    have hmem:=List.mem_of_getElem? h2
    cases hr:st.ringTo x k with
    | none =>
     rw [hr] at ih
     have hy:st.younger none i=true:=rfl
     rw [hy,if_pos rfl]
     refine ⟨t,k,by omega,h2,h3,by rw [h3]; exact hin,fun m' hm' hi u hu huw=>?_⟩
     rcases Nat.lt_or_ge m' k with h | h
     ·rw [ih m' h] at hi; cases hi
     ·have:u=t:=uniq_eq F hmem hu (by rw [huw,h3,show m'=k by omega])
      rw [this]; exact Int.le_refl _
    | some b =>
     rw [hr] at ih
     obtain ⟨tb,m,g1,g2,g3,g4,g5⟩:=ih
     have hy:st.younger (some b) i=decide (tb.nth < t.nth):=by
      unfold RS.younger RS.nthAt
      simp only [g2,h2]
     rw [hy]
     by_cases hlt:tb.nth < t.nth
     ·rw [decide_eq_true hlt,if_pos rfl]
      refine ⟨t,k,by omega,h2,h3,by rw [h3]; exact hin,fun m' hm' hi u hu huw=>?_⟩
      rcases Nat.lt_or_ge m' k with h | h
      ·have:=g5 m' h hi u hu huw; omega
      ·have:u=t:=uniq_eq F hmem hu (by rw [huw,h3,show m'=k by omega])
       rw [this]; exact Int.le_refl _
     ·rw [decide_eq_false hlt,if_neg (by simp)]
      refine ⟨tb,m,by omega,g2,g3,g4,fun m' hm' hi u hu huw=>?_⟩
      rcases Nat.lt_or_ge m' k with h | h
      ·exact g5 m' h hi u hu huw
      ·have:u=t:=uniq_eq F hmem hu (by rw [huw,h3,show m'=k by omega])
       rw [this]; omega
theorem nth_eq {st:RS} (I:st.Inv) {t u:Tx} (ht:t∈st.txns) (hu:u∈st.txns) (h:t.nth=u.nth):t=u:=by
 obtain ⟨i,hi⟩:=List.mem_iff_getElem?.1 ht
 obtain ⟨j,hj⟩:=List.mem_iff_getElem?.1 hu
 obtain ⟨h1,e1⟩:=List.getElem?_eq_some_iff.1 hi
 obtain ⟨h2,e2⟩:=List.getElem?_eq_some_iff.1 hj
 have hp:=List.pairwise_iff_getElem.1 I.nth
 rcases Nat.lt_trichotomy i j with h3 | h3 | h3
 ·have:=hp i j h1 h2 h3
  rw [e1,e2] at this; omega
 ·subst h3; rw [← e1,← e2]
 ·have:=hp j i h2 h1 h3
  rw [e1,e2] at this; omega
theorem last_best {L:List Tx} (hp:L.Pairwise (fun t u=>t.nth < u.nth)) {Q:Tx→Bool} {t:Tx} (h:L.reverse.find? Q=some t):∀ u∈L,Q u=true→u.nth≤t.nth:=fun u hu hq=>by
 obtain ⟨_,l1,l2,e,hn⟩:=List.find?_eq_some_iff_append.1 h
 have hp':L.reverse.Pairwise (fun t u=>u.nth < t.nth):=List.pairwise_reverse.2 hp
 have hu':u∈L.reverse:=List.mem_reverse.2 hu
 rw [e] at hp' hu'
 rcases List.mem_append.1 hu' with h1 | h1
 ·have:=hn u h1; rw [hq] at this; cases this
 ·rcases List.mem_cons.1 h1 with h1 | h1
  ·rw [h1]; exact Int.le_refl _
  ·have:=(List.pairwise_cons.1 (List.pairwise_append.1 hp').2.1).1 u h1
   omega
theorem sim_young {N:Nat} {st:RS} (F:st.Fit N) (I:st.Inv) {q n:Nat} (hn:n < 4) :
  ((st.trOf q).youngest n=none∧st.ringTo (whoOf q n) 4=none)∨∃ y b t,(st.trOf q).youngest n=some y∧y < 4∧y∈st.begOf q∧st.ringTo (whoOf q n) 4=some b∧st.txns[b]?=some t∧t.who=whoOf q y:=by
 have hb:=ring_best F (whoOf q n) 4
 unfold RingBest at hb
 have hL:∀ t∈st.txns.filter (fun t=>t.who.lab == labOf q),t∈st.txns∧∃ m,m < 4∧t.who=whoOf q m:=fun t ht=>by
  obtain ⟨h1,h2⟩:=List.mem_filter.1 ht
  rw [beq_iff_eq] at h2
  obtain ⟨q',m,_,hm,e⟩:=ok_who (F.who t h1)
  have:q'=q:=labOf_inj (by rw [← whoOf_lab q' m,← e,h2])
  exact ⟨h1,m,hm,by rw [e,this]⟩
 have hp:=I.nth.sublist (List.filter_sublist (p:=fun t:Tx=>t.who.lab == labOf q))
 have hy:(st.trOf q).youngest n=((st.txns.filter (fun t=>t.who.lab == labOf q)).reverse.find? ((fun o=>(st.trOf q).firstHand.closed n o && (st.trOf q).firstHand.closed o n) ∘ (fun t=>numOf t.who))).map (fun t=>numOf t.who):=by
  unfold Tr.youngest
  show (st.begOf q).reverse.find? _=_
  unfold RS.begOf
  rw [← List.map_reverse,List.find?_map]
 rw [hy]
 cases hf:(st.txns.filter (fun t=>t.who.lab == labOf q)).reverse.find? ((fun o=>(st.trOf q).firstHand.closed n o && (st.trOf q).firstHand.closed o n) ∘ (fun t=>numOf t.who)) with
 | none =>
  left
  refine ⟨rfl,?_⟩
  cases hr:st.ringTo (whoOf q n) 4 with
  | none=>rfl
  | some b =>
   exfalso
   rw [hr] at hb
   obtain ⟨t,m,h1,h2,h3,h4,_⟩:=hb
   have h3':t.who=whoOf q m:=h3
   have ht:=List.mem_of_getElem? h2
   rw [h3',ring_in F I hn h1] at h4
   have:=List.find?_eq_none.1 hf t (List.mem_reverse.2 (List.mem_filter.2 ⟨ht,by rw [h3']; simp [whoOf_lab]⟩))
   rw [Function.comp,h3',numOf_whoOf] at this
   exact this h4.2
 | some ty =>
  right
  have hmem:=List.mem_reverse.1 (List.mem_of_find?_eq_some hf)
  obtain ⟨hty,y,hy4,hyw⟩:=hL ty hmem
  have hP:=List.find?_some hf
  rw [Function.comp,hyw,numOf_whoOf] at hP
  have hin:st.inRing (whoOf q n) (whoOf q y)=true:=(ring_in F I hn hy4).2 ⟨⟨ty,hty,hyw⟩,hP⟩
  cases hr:st.ringTo (whoOf q n) 4 with
  | none =>
   exfalso
   rw [hr] at hb
   have:=hb y hy4
   rw [show ((whoOf q n).1,(whoOf q n).2.1,(y:Int))=whoOf q y from rfl,hin] at this
   cases this
  | some b =>
   rw [hr] at hb
   obtain ⟨t,m,h1,h2,h3,h4,h5⟩:=hb
   have h3':t.who=whoOf q m:=h3
   have ht:=List.mem_of_getElem? h2
   rw [h3',ring_in F I hn h1] at h4
   have g1:=h5 y hy4 hin ty hty hyw
   have g2:=last_best hp hf t (List.mem_filter.2 ⟨ht,by rw [h3']; simp [whoOf_lab]⟩) (by rw [Function.comp,h3',numOf_whoOf]; exact h4.2)
   have e:=nth_eq I ht hty (by omega)
   subst e
   refine ⟨y,b,t,by rw [Option.map_some,hyw,numOf_whoOf],hy4,?_,rfl,h2,hyw⟩
   unfold RS.begOf
   exact List.mem_map.2 ⟨t,hmem,by rw [hyw,numOf_whoOf]⟩
def RS.withE (st:RS) (e:List (Wh × Int)):RS:={ st with ended:=e }
theorem back_E (a:Lab):∀ (l:List (Int × Int)) (st:RS) (e:List (Wh × Int)),backTo a l (st.withE e)=(backTo a l st).withE e
 | [],_,_=>rfl
 | o :: l,st,e=>by
  unfold backTo
  rw [List.foldl_cons,List.foldl_cons]
  exact back_E a l (st.setP a o.1 o.2) e
theorem does_E (st:RS) (e:List (Wh × Int)) (x:Stp):(st.withE e).does x=((st.does x).1.withE e,(st.does x).2):=by
 unfold RS.does
 rw [show (st.withE e).txOf x.who=st.txOf x.who from rfl,show (st.withE e).live x.who=st.live x.who from rfl]
 cases st.txOf x.who with
 | none=>rfl
 | some t =>
  simp only
  unfold RS.job
  rw [show (st.withE e).full x=st.full x from rfl,show (st.withE e).reads x=st.reads x from rfl]
  have hk:∀ key,(st.withE e).keepOld (st.live x.who).toNat t key=(st.keepOld (st.live x.who).toNat t key).withE e:=fun key=>by
   unfold RS.keepOld; split<;>rfl
  have hw:∀ key v,(st.withE e).writeT (st.live x.who).toNat t key v=(st.writeT (st.live x.who).toNat t key v).withE e:=fun key v=>by
   unfold RS.writeT; rw [hk]; rfl
  have hp:∀ key v,(st.withE e).putT (st.live x.who).toNat t key v=(st.putT (st.live x.who).toNat t key v).withE e:=fun key v=>by
   unfold RS.putT; rw [hw]; rfl
  split
  ·rw [hw]
  ·split
   ·split
    ·rfl
    ·rw [hp]
   ·rfl
structure Two (A:List (Wh × Int)) (z:Wh × Int) (s s2:RS):Prop where
 ex:∃ C,s.ended=A++C∧s2=s.withE (A++z :: C)∧∀ p∈C,p.1≠z.1
 gone:∀ t∈s.txns,t.who≠z.1
namespace Two
variable {A:List (Wh × Int)} {z:Wh × Int} {s s2:RS}
theorem ends (h:Two A z s s2) (y:Wh) (b:Bool) (w:Int):Two A z (s.ends y b w) (s2.ends y b w):=by
 obtain ⟨⟨C,h1,h2,h3⟩,h4⟩:=h
 subst h2
 unfold RS.ends
 rw [show (s.withE (A++z :: C)).txOf y=s.txOf y from rfl]
 cases ht:s.txOf y with
 | none=>exact ⟨⟨C,h1,rfl,h3⟩,h4⟩
 | some t =>
  obtain ⟨hm,hy⟩:=txOf_mem ht
  have hne:y≠z.1:=by rw [← hy]; exact h4 t hm
  refine ⟨⟨if 0 < w then C++[(y,w)] else C,?_,?_,?_⟩,fun u hu=>h4 u (List.mem_filter.1 hu).1⟩
  ·show (if 0 < w then s.ended++[(y,w)] else s.ended)=_
   split
   ·rw [h1,List.append_assoc]
   ·exact h1
  ·have hb:(if b=true then backTo y.lab t.olds.reverse (s.withE (A++z :: C)) else s.withE (A++z :: C))=(if b=true then backTo y.lab t.olds.reverse s else s).withE (A++z :: C):=by
    cases b with
    | false=>rfl
    | true=>exact back_E _ _ _ _
   simp only [hb]
   unfold RS.withE
   by_cases h0:0 < w<;>simp [h0]
  ·split
   ·intro p hp
    rcases List.mem_append.1 hp with hp | hp
    ·exact h3 p hp
    ·rw [List.mem_singleton.1 hp]; exact hne
   ·exact h3
theorem recs (h:Two A z s s2):s2.recs=s.recs:=by
 obtain ⟨⟨C,h1,h2,h3⟩,h4⟩:=h
 subst h2; rfl
theorem clearN {rc:Rc}:∀ (f:Nat) {s s2:RS},Two A z s s2→Two A z (RS.clearN rc f s) (RS.clearN rc f s2)
 | 0,_,_,h=>h
 | f+1,s,s2,h=>by
  unfold RS.clearN
  rw [h.recs]
  cases s.recs.find? (clrP rc) with
  | none=>exact h
  | some a=>exact clearN f (h.ends _ _ _)
theorem clearT (h:Two A z s s2) (rc:Rc):Two A z (s.clearT rc) (s2.clearT rc):=by
 unfold RS.clearT
 rw [h.recs]
 split
 ·exact clearN _ h
 ·exact h
theorem off (h:Two A z s s2) (j:Nat) (c:Rc):Two A z (s.offAt j c) (s2.offAt j c):=by
 obtain ⟨⟨C,h1,h2,h3⟩,h4⟩:=h
 subst h2
 exact ⟨⟨C,h1,rfl,h3⟩,h4⟩
theorem does (h:Two A z s s2) (x:Stp):Two A z (s.does x).1 (s2.does x).1∧(s2.does x).2=(s.does x).2:=by
 obtain ⟨⟨C,h1,h2,h3⟩,h4⟩:=h
 subst h2
 rw [does_E]
 exact ⟨⟨⟨C,by rw [(does_recs s x).2]; exact h1,rfl,h3⟩,fun t ht=>by
  obtain ⟨u,hu,e⟩:=does_who x ht
  rw [← e]; exact h4 u hu⟩,rfl⟩
theorem tell (h:Two A z s s2) (x:Wh) (a:Ans):Two A z (s.tell x a) (s2.tell x a):=by
 obtain ⟨⟨C,h1,h2,h3⟩,h4⟩:=h
 subst h2
 exact ⟨⟨C,h1,rfl,h3⟩,fun t ht=>by
  obtain ⟨u,hu,rfl⟩:=List.mem_map.1 ht
  have:=h4 u hu
  split<;>exact this⟩
theorem stepOf (h:Two A z s s2) (x:Wh):s2.stepOf x=s.stepOf x:=by
 obtain ⟨⟨C,h1,h2,h3⟩,h4⟩:=h
 subst h2; rfl
theorem grant (h:Two A z s s2) (j:Nat) (c:Rc):Two A z (s.grant j c) (s2.grant j c):=by
 unfold RS.grant RS.granted
 have h1:=(h.off j c).clearT c.off
 rw [h1.stepOf]
 have h2:=h1.does (((s.offAt j c).clearT c.off).stepOf c.who)
 rw [h2.2]
 exact h2.1.tell _ _
theorem best (h:Two A z s s2):∀ k,s2.bestTo k=s.bestTo k:=by
 obtain ⟨⟨C,h1,h2,h3⟩,h4⟩:=h
 subst h2
 intro k
 induction k with
 | zero=>rfl
 | succ k ih=>rw [RS.bestTo,RS.bestTo,ih]; rfl
theorem againN:∀ (f:Nat) {s s2:RS},Two A z s s2→Two A z (RS.againN f s) (RS.againN f s2)
 | 0,_,_,h=>h
 | f+1,s,s2,h=>by
  unfold RS.againN
  rw [h.best,h.recs]
  cases s.bestTo s.recs.length with
  | none=>exact h
  | some j =>
   simp only
   cases s.recs[j]? with
   | none=>exact h
   | some c=>exact againN f (h.grant j c)
theorem againT (h:Two A z s s2):Two A z s.againT s2.againT:=by
 unfold RS.againT RS.waitN
 rw [h.recs]
 exact againN _ h
theorem told (h:Two A z s s2) (hA:∀ p∈A,p.1≠z.1):s2.toldT z.1=s∧s2.toldW z.1=z.2:=by
 obtain ⟨⟨C,h1,h2,h3⟩,h4⟩:=h
 subst h2
 have hno:∀ p∈A,¬ isW z.1 p=true:=fun p hp=>by
  unfold isW; rw [sameW_eq]; simpa using hA p hp
 have hz:isW z.1 z=true:=by unfold isW; rw [sameW_eq]; simp
 constructor
 ·unfold RS.toldT RS.withE
  simp only
  rw [List.eraseP_append_right _ hno,List.eraseP_cons_of_pos hz,← h1]
 ·unfold RS.toldW RS.withE
  simp only
  rw [List.find?_append,List.find?_eq_none.2 hno]
  simp [hz]
end Two
def InW (W:List Wh) (st:RS):Prop:=∀ t∈st.txns,t.who∈W
theorem InW.ends {W:List Wh} {st:RS} (h:InW W st) (x:Wh) (b:Bool) (w:Int):InW W (st.ends x b w):=by
 rcases ends_some (st:=st) (x:=x) (b:=b) (w:=w) with e | ⟨_,p,e⟩<;>rw [e]
 ·exact h
 ·exact fun t ht=>h t (List.mem_filter.1 ht).1
theorem closed_in (W:List Wh) (x:Stp) (hx:x.who∈W):Closed (InW W) x where
 told:=fun st h=>h
 unready:=fun st h t ht=>by
  obtain ⟨u,hu,rfl⟩:=List.mem_map.1 ht
  have:=h u hu
  split<;>exact this
 start:=fun st h _ t ht=>by
  rcases List.mem_append.1 ht with ht | ht
  ·exact h t ht
  ·simp only [List.mem_singleton] at ht; subst ht; exact hx
 quit:=fun st z b h=>h.ends z b 0
 dead:=fun st z h=>h.ends z true 2
 shove:=fun st _ a h _ _=>h.ends a.who true 1
 park:=fun st h _ _ t ht=>by
  obtain ⟨u,hu,rfl⟩:=List.mem_map.1 ht
  have:=h u hu
  split<;>exact this
 take:=fun st h _ _=>h
 off:=fun st _ _ h _=>h
 does:=fun st z h t ht=>by
  obtain ⟨u,hu,e⟩:=does_who z ht
  rw [← e]; exact h u hu
 tell:=fun st z a h _ _ t ht=>by
  obtain ⟨u,hu,rfl⟩:=List.mem_map.1 ht
  have:=h u hu
  split<;>exact this
theorem does_whos (st:RS) (x:Stp):(st.does x).1.txns.map (·.who)=st.txns.map (·.who):=by
 rcases txOf_cases st x.who with ⟨h1,_⟩ | ⟨m,u,h1,h2,h3,h4⟩
 ·unfold RS.does; rw [h1]
 ·unfold RS.does
  rw [h1]
  simp only
  rw [h2,Int.toNat_natCast]
  obtain ⟨u',e1,e2,_⟩:=job_at (x:=x) h3
  rw [e1]
  exact set_whos h3 e2
def Here (x:Wh) (st:RS):Prop:=∃ t∈st.txns,t.who=x
theorem clearN_here {rc:Rc} {x:Wh}:∀ (f:Nat) (st:RS),Here x st→(∀ z∈st.recs,clrP rc z=true→z.who≠x)→Here x (RS.clearN rc f st)
 | 0,_,h,_=>h
 | f+1,st,h,hc=>by
  unfold RS.clearN
  cases hf:st.recs.find? (clrP rc) with
  | none=>exact h
  | some a =>
   simp only
   have ha:=List.mem_of_find?_eq_some hf
   have hne:=hc a ha (List.find?_some hf)
   rcases ends_rest st a.who true 1 with e | ⟨p,e⟩
   ·rw [e]; exact clearN_here f st h hc
   ·refine clearN_here f _ ?_ (fun z hz=>?_)
    ·rw [e]
     obtain ⟨t,ht,hx⟩:=h
     exact ⟨t,List.mem_filter.2 ⟨ht,by rw [hx]; simpa using Ne.symm hne⟩,hx⟩
    ·rw [e] at hz; exact hc z (List.mem_filter.1 hz).1
theorem grant_here {N:Nat} {st:RS} (F:st.Fit N) (I:st.Inv) {j:Nat} {c:Rc} (hj:st.recs[j]?=some c) (hw:c.waits=true) (hh:st.hindered c=false) {x:Wh} (hx:plOf x.lab≤plOf c.at_) (h:Here x st):Here x (st.grant j c):=by
 have h1:Here x (st.granted j c):=by
  unfold RS.granted RS.clearT
  split
  ·refine clearN_here _ _ h (fun z hz hcl e=>?_)
   have:=(clr_above (F.offAt hj) (I.off hj hw hh) hz hcl).2.2.2
   rw [e] at this
   have h3:plOf c.off.at_=plOf c.at_:=rfl
   omega
  ·exact h
 unfold RS.grant RS.tell
 obtain ⟨t,ht,e⟩:=h1
 have:x∈((st.granted j c).does ((st.granted j c).stepOf c.who)).1.txns.map (·.who):=by rw [does_whos]; exact List.mem_map.2 ⟨t,ht,e⟩
 obtain ⟨u,hu,e2⟩:=List.mem_map.1 this
 refine ⟨_,List.mem_map.2 ⟨u,hu,rfl⟩,?_⟩
 split<;>exact e2
theorem again_here {N:Nat} {x:Wh}:∀ (f:Nat) (st:RS),st.Fit N→st.Inv→(∀ d∈st.recs,st.free d=true→plOf x.lab≤plOf d.at_)→Here x st→Here x (RS.againN f st)
 | 0,_,_,_,_,h=>h
 | f+1,st,F,I,hA,h=>by
  rcases best_cases st with hb | ⟨j,c,hb,hj,hfr⟩
  ·rw [againN_none hb]; exact h
  ·rw [againN_step hb hj]
   obtain ⟨hw,hh⟩:=free_two hfr
   have hcm:=List.mem_of_getElem? hj
   have hca:=hA c hcm hfr
   obtain ⟨q,n,hq,_,hc⟩:=ok_who (F.recW hcm)
   refine again_here f _ (F.grant hj hw) (sim_grant F I hj hw hh hc hq).2 (fun d hd hf=>?_) (grant_here F I hj hw hh hca h)
   by_cases hp:plOf d.at_≤plOf c.at_
   ·obtain ⟨h1,h2,_⟩:=grant_frees F I hj hw hh hd hf hp
    exact hA d h1 h2
   ·omega
theorem nodup_sub:∀ {l m:List Nat},l.Nodup→(∀ x∈l,x∈m)→l.length≤m.length
 | [],_,_,_=>Nat.zero_le _
 | a :: l,m,hn,h=>by
  obtain ⟨h1,h2⟩:=List.nodup_cons.1 hn
  have ha:=h a List.mem_cons_self
  have:=nodup_sub h2 (m:=m.erase a) (fun x hx=>(List.mem_erase_of_ne (fun e=>h1 (by rw [← e]; exact hx))).2 (h x (List.mem_cons_of_mem _ hx)))
  rw [List.length_erase_of_mem ha] at this
  have:=List.length_pos_of_mem ha
  rw [List.length_cons]; omega
theorem told_none {N:Nat} {st:RS} (F:st.Fit N) {x:Wh} (h:Here x st):st.toldW x=0∧∀ p∈st.ended,p.1≠x:=by
 obtain ⟨t,ht,e⟩:=h
 have h2:∀ p∈st.ended,p.1≠x:=fun p hp e2=>F.endT p hp t ht (by rw [e,e2])
 refine ⟨?_,h2⟩
 unfold RS.toldW
 rw [List.find?_eq_none.2 (fun p hp=>by unfold isW; rw [sameW_eq]; simpa using h2 p hp)]
end Go.Proofs.Ytpbcplfpjcacfaa
