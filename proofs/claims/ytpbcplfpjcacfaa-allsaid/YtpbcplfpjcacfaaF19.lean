import Derived.Test.YtpbcplfpjcacfaaF18
namespace Go.Proofs.Ytpbcplfpjcacfaa
open Go.RowKit
set_option maxRecDepth 100000
set_option maxHeartbeats 8000000
theorem ahead_came {c:Rc} {o n:Nat} (hon:o≠n):∀ {W:List Rc},W.Pairwise (fun a b=>a.came < b.came)→(∀ a∈W,numOf a.who=n→a=c)→c∈W→numOf c.who=n→(aheadIn (W.map (fun a=>numOf a.who)) o n=true↔∃ a∈W,numOf a.who=o∧a.came < c.came)
 | [],_,_,h,_=>by cases h
 | a :: W,hp,hu,hc,hcn=>by
  obtain ⟨hp1,hp2⟩:=List.pairwise_cons.1 hp
  rw [List.map_cons,aheadIn]
  by_cases e:numOf a.who=n
  ·rw [if_pos e]
   have ea:=hu a (List.mem_cons_self) e
   constructor
   ·intro h; cases h
   ·rintro ⟨b,hb,hbo,hbc⟩
    rcases List.mem_cons.1 hb with h | h
    ·rw [h] at hbo; exact absurd (hbo.symm.trans e) hon
    ·have:=hp1 b h
     rw [ea] at this; omega
  ·rw [if_neg e]
   have hcW:c∈W:=by
    rcases List.mem_cons.1 hc with h | h
    ·rw [h] at hcn; exact absurd hcn e
    ·exact h
   by_cases e2:numOf a.who=o
   ·rw [if_pos e2]
    exact ⟨fun _=>⟨a,List.mem_cons_self,e2,hp1 c hcW⟩,fun _=>rfl⟩
   ·rw [if_neg e2,ahead_came hon hp2 (fun b hb=>hu b (List.mem_cons_of_mem _ hb)) hcW hcn]
    constructor
    ·rintro ⟨b,hb,h1,h2⟩; exact ⟨b,List.mem_cons_of_mem _ hb,h1,h2⟩
    ·rintro ⟨b,hb,h1,h2⟩
     rcases List.mem_cons.1 hb with h | h
     ·rw [h] at h1; exact absurd h1 e2
     ·exact ⟨b,h,h1,h2⟩
theorem wait_one {N:Nat} {st:RS} (F:st.Fit N) {c d:Rc} (hc:c∈st.recs) (hd:d∈st.recs) (wc:c.waits=true) (wd:d.waits=true) (h:c.who=d.who):c=d:=by
 have hu:=F.waitsU
 have h1:c∈st.recs.filter (·.waits):=List.mem_filter.2 ⟨hc,wc⟩
 have h2:d∈st.recs.filter (·.waits):=List.mem_filter.2 ⟨hd,wd⟩
 generalize st.recs.filter (·.waits)=l at *
 clear hc hd
 induction l with
 | nil=>cases h1
 | cons a l ih =>
  rw [List.map_cons,List.nodup_cons] at hu
  rcases List.mem_cons.1 h1 with e1 | e1
  ·rcases List.mem_cons.1 h2 with e2 | e2
   ·rw [e1,e2]
   ·exact absurd (List.mem_map.2 ⟨d,e2,by rw [← h,e1]⟩) hu.1
  ·rcases List.mem_cons.1 h2 with e2 | e2
   ·exact absurd (List.mem_map.2 ⟨c,e1,by rw [h,e2]⟩) hu.1
   ·exact ih hu.2 e1 e2
theorem req_wait {N:Nat} {st:RS} (F:st.Fit N) {c:Rc} (hc:c∈st.recs) (hw:c.waits=true):∃ t∈st.txns,t.who=c.who∧st.txOf c.who=some t∧st.reqOf c.who=t.step∧t.step.asks c:=by
 obtain ⟨t,ht,hwho⟩:=F.backed c hc
 obtain ⟨m,hm⟩:=List.mem_iff_getElem?.1 ht
 refine ⟨t,ht,hwho,txOf_at F.uniq hm hwho,?_,F.waits c hc hw t ht hwho⟩
 unfold RS.reqOf
 rw [waitB_true hc hw,if_pos rfl]
 exact stepOf_at F.uniq hm hwho
theorem who_num {x:Wh} {q n:Nat} (hok:x.ok) (hl:x.lab=labOf q) (hn:numOf x=n):x=whoOf q n:=by
 obtain ⟨q',n',_,_,e⟩:=ok_who hok
 have h1:q'=q:=labOf_inj (by rw [← whoOf_lab q' n',← e,hl])
 have h2:n'=n:=by rw [← hn,e,numOf_whoOf]
 rw [e,h1,h2]
theorem sim_hind {N:Nat} {st:RS} (F:st.Fit N) (I:st.Inv) {c:Rc} (hc:c∈st.recs) (hw:c.waits=true) {q n:Nat} (hx:c.who=whoOf q n) (hq:q < 32):st.toPS.hindB q n=st.hindered c:=by
 obtain ⟨t,ht,hwho,htx,hreq,hask⟩:=req_wait F hc hw
 have hlk:=asks_lk hask
 have hat:t.step.at_=c.at_:=hask.2.1
 have hr:((st.toPS.t q).ses n).req=t.step:=by rw [toPS_ses,← hx]; exact hreq
 have hlab:c.who.lab=labOf q:=by rw [hx]; rfl
 unfold PS.hindB
 rw [hr,hat]
 by_cases hown:c.at_=labOf q
 ·rw [if_pos hown]
  rw [Bool.eq_iff_iff,List.any_eq_true]
  unfold RS.hindered
  rw [List.any_eq_true]
  have hh:∀ a∈st.recs,(hindB a c=true↔a.who≠c.who∧a.who.lab=labOf q∧meetB a c=true∧(a.waits=false∨a.came < c.came)):=fun a ha=>by
   unfold hindB
   rw [sameW_eq,show sameL a.who.1 a.who.2.1 c.at_.1 c.at_.2=(a.who.lab == c.at_) from sameL_eq a.who.lab c.at_,show sameL c.who.1 c.who.2.1 c.at_.1 c.at_.2=(c.who.lab == c.at_) from sameL_eq c.who.lab c.at_,hlab,hown]
   by_cases h1:a.who=c.who
   ·simp [h1]
   ·by_cases h2:a.who.lab=labOf q
    ·by_cases h3:meetB a c=true
     ·cases hwa:a.waits<;>simp [h1,h2,h3]
     ·have h3':meetB a c=false:=by simpa using h3
      simp [h1,h2,h3']
    ·simp [h1,h2]
  have hW:(st.trOf q).queue=(st.recs.filter (fun c=>c.waits && c.who.lab == labOf q)).map (fun a=>numOf a.who):=rfl
  have hcW:c∈st.recs.filter (fun c=>c.waits && c.who.lab == labOf q):=List.mem_filter.2 ⟨hc,by rw [hw,hlab]; simp⟩
  have hcn:numOf c.who=n:=by rw [hx,numOf_whoOf]
  have huniq:∀ a∈st.recs.filter (fun c=>c.waits && c.who.lab == labOf q),numOf a.who=n→a=c:=fun a ha hn=>by
   obtain ⟨h1,h2⟩:=List.mem_filter.1 ha
   simp only [Bool.and_eq_true,beq_iff_eq] at h2
   exact wait_one F h1 hc h2.1 hw (by rw [who_num (F.recW h1) h2.2 hn,hx])
  constructor
  ·rintro ⟨o,ho,h⟩
   have ho4:=List.mem_range.1 ho
   unfold Tr.hindB at h
   simp only [Bool.and_eq_true,Bool.not_eq_true',Bool.or_eq_true] at h
   obtain ⟨hne,h⟩:=h
   have hon:o≠n:=by simpa using hne
   rw [show ((st.toPS.t q).ses n).req=t.step from hr,hlk] at h
   rcases h with h | ⟨h1,h2⟩
   ·have h':(st.sesOf (whoOf q o)).metB (rcLk c)=true:=h
    rw [ses_met,List.any_eq_true] at h'
    obtain ⟨a,ha,hb⟩:=h'
    simp only [Bool.and_eq_true,beq_iff_eq,Bool.not_eq_true'] at hb
    refine ⟨a,ha,(hh a ha).2 ⟨by rw [hb.1.1,hx]; exact fun e=>hon (whoOf_inj e).2,by rw [hb.1.1]; rfl,hb.2,.inl hb.1.2⟩⟩
   ·have h1':=(ahead_came hon (I.came.sublist List.filter_sublist) huniq hcW hcn).1 h1
    obtain ⟨a,haW,hao,hac⟩:=h1'
    obtain ⟨ha,ha2⟩:=List.mem_filter.1 haW
    simp only [Bool.and_eq_true,beq_iff_eq] at ha2
    have haw:a.who=whoOf q o:=who_num (F.recW ha) ha2.2 hao
    obtain ⟨t',_,_,_,hreq',hask'⟩:=req_wait F ha ha2.1
    have hr':((st.toPS.t q).ses o).req=t'.step:=by rw [toPS_ses,← haw]; exact hreq'
    rw [hr',asks_lk hask',lk_meet] at h2
    exact ⟨a,ha,(hh a ha).2 ⟨by rw [haw,hx]; exact fun e=>hon (whoOf_inj e).2,ha2.2,h2,.inr hac⟩⟩
  ·rintro ⟨a,ha,h⟩
   obtain ⟨h1,h2,h3,h4⟩:=(hh a ha).1 h
   obtain ⟨q',o,hq',ho,hao⟩:=ok_who (F.recW ha)
   have hqq:q'=q:=labOf_inj (by rw [← whoOf_lab q' o,← hao,h2])
   subst hqq
   have hon:o≠n:=fun e=>h1 (by rw [hao,hx,e])
   refine ⟨o,List.mem_range.2 ho,?_⟩
   unfold Tr.hindB
   rw [show ((st.toPS.t q').ses n).req=t.step from hr,hlk]
   have e1:(!(o == n))=true:=by simpa using hon
   rw [e1,Bool.true_and]
   cases hwa:a.waits with
   | false =>
    have:((st.toPS.t q').ses o).metB (rcLk c)=true:=by
     show (st.sesOf (whoOf q' o)).metB (rcLk c)=true
     rw [ses_met,List.any_eq_true]
     exact ⟨a,ha,by rw [hao,hwa,h3]; simp⟩
    rw [this]; rfl
   | true =>
    have hac:a.came < c.came:=by
     rcases h4 with h4 | h4
     ·rw [hwa] at h4; cases h4
     ·exact h4
    have hah:aheadIn (st.toPS.t q').queue o n=true:=(ahead_came hon (I.came.sublist List.filter_sublist) huniq hcW hcn).2 ⟨a,List.mem_filter.2 ⟨ha,by rw [hwa,h2]; simp⟩,by rw [hao,numOf_whoOf],hac⟩
    obtain ⟨t',_,_,_,hreq',hask'⟩:=req_wait F ha hwa
    have hr':((st.toPS.t q').ses o).req=t'.step:=by rw [toPS_ses,← hao]; exact hreq'
    rw [hah,hr',asks_lk hask',lk_meet,h3]
    simp
 ·rw [if_neg hown,hlk]
  unfold Tr.metB RS.hindered
  rw [Bool.eq_iff_iff,List.any_eq_true,List.any_eq_true]
  have hok:c.at_.ok:=F.recAt c hc
  have hlo:labOf (plOf c.at_)=c.at_:=labOf_plOf (labB_mk hok)
  have hh:∀ a,(hindB a c=true↔a.who≠c.who∧a.who.lab=c.at_∧meetB a c=true∧a.waits=false):=fun a=>by
   unfold hindB
   rw [sameW_eq,show sameL a.who.1 a.who.2.1 c.at_.1 c.at_.2=(a.who.lab == c.at_) from sameL_eq a.who.lab c.at_,show sameL c.who.1 c.who.2.1 c.at_.1 c.at_.2=(c.who.lab == c.at_) from sameL_eq c.who.lab c.at_,hlab]
   have hno:(labOf q == c.at_)=false:=by simpa using fun e=>hown e.symm
   rw [hno]
   by_cases h1:a.who=c.who
   ·simp [h1]
   ·by_cases h2:a.who.lab=c.at_
    ·by_cases h3:meetB a c=true
     ·cases hwa:a.waits<;>simp [h1,h2,h3]
     ·have h3':meetB a c=false:=by simpa using h3
      simp [h1,h2,h3']
    ·simp [h1,h2]
  constructor
  ·rintro ⟨o,ho,h⟩
   have h':(st.sesOf (whoOf (plOf c.at_) o)).metB (rcLk c)=true:=h
   rw [ses_met,List.any_eq_true] at h'
   obtain ⟨a,ha,hb⟩:=h'
   simp only [Bool.and_eq_true,beq_iff_eq,Bool.not_eq_true'] at hb
   have hal:a.who.lab=c.at_:=by rw [hb.1.1,whoOf_lab,hlo]
   exact ⟨a,ha,(hh a).2 ⟨fun e=>hown (by rw [← hal,e,hlab]),hal,hb.2,hb.1.2⟩⟩
  ·rintro ⟨a,ha,h⟩
   obtain ⟨h1,h2,h3,h4⟩:=(hh a).1 h
   obtain ⟨q',o,hq',ho,hao⟩:=ok_who (F.recW ha)
   have hqq:q'=plOf c.at_:=labOf_inj (by rw [← whoOf_lab q' o,← hao,h2,hlo])
   subst hqq
   refine ⟨o,List.mem_range.2 ho,?_⟩
   show (st.sesOf (whoOf (plOf c.at_) o)).metB (rcLk c)=true
   rw [ses_met,List.any_eq_true]
   exact ⟨a,ha,by rw [hao,h4,h3]; simp⟩
theorem place_int {a:Lab} (h:a.ok):8*a.1+a.2=(plOf a:Int):=by
 have:=(placeOf_eq (labB_mk h)).1
 unfold plOf
 omega
theorem ownL_eq (c:Rc):ownL c=(c.who.lab == c.at_):=sameL_eq c.who.lab c.at_
theorem grant_recs (st:RS) (j:Nat) (c:Rc):(st.grant j c).recs=(st.granted j c).recs:=by
 unfold RS.grant RS.tell
 obtain ⟨p,t,e⟩:=does_rest (st.granted j c) ((st.granted j c).stepOf c.who)
 simp only [e]
theorem free_two {st:RS} {c:Rc} (h:st.free c=true):c.waits=true∧st.hindered c=false:=by
 unfold RS.free at h
 simp only [Bool.and_eq_true,Bool.not_eq_true'] at h
 exact h
theorem free_of {st:RS} {c:Rc} (h1:c.waits=true) (h2:st.hindered c=false):st.free c=true:=by
 unfold RS.free; rw [h1,h2]; rfl
theorem grant_frees {N:Nat} {st:RS} (F:st.Fit N) (I:st.Inv) {j:Nat} {c:Rc} (hj:st.recs[j]?=some c) (hw:c.waits=true) (hh:st.hindered c=false) {d:Rc} (hd:d∈(st.grant j c).recs) (hf:(st.grant j c).free d=true) (hp:plOf d.at_≤plOf c.at_):d∈st.recs∧st.free d=true∧d.who≠c.who:=by
 obtain ⟨dw,dh⟩:=free_two hf
 have hcm:=List.mem_of_getElem? hj
 rw [grant_recs] at hd
 have hsub:=(clearT_sub (st.offAt j c) c.off).mem hd
 have hd2:d∈st.recs:=by
  rcases List.mem_or_eq_of_mem_set hsub with h | h
  ·exact h
  ·rw [h] at dw; cases dw
 have hne:d.who≠c.who:=fun e=>by
  have:=off_nowait F hj hw d hsub e
  rw [dw] at this; cases this
 refine ⟨hd2,free_of dw ?_,hne⟩
 cases hh2:st.hindered d with
 | false=>rfl
 | true =>
  exfalso
  unfold RS.hindered at hh2 dh
  obtain ⟨e,he,hed⟩:=List.any_eq_true.1 hh2
  rw [grant_recs] at dh
  have hlab:e.who.lab=d.at_:=by
   unfold hindB at hed
   split at hed
   ·cases hed
   ·rename_i h
    simp only [Bool.or_eq_true,Bool.not_eq_true',not_or,Bool.not_eq_false] at h
    have:=of_decide_eq_true h.1.2
    exact Prod.ext this.1 this.2
  have hnc:∀ z∈(st.offAt j c).recs,clrP c.off z=true→z.who≠e.who:=fun z hz hcl e2=>by
   have:=(clr_above (F.offAt hj) (I.off hj hw hh) hz hcl).2.2.2
   rw [e2,hlab] at this
   have h3:plOf c.off.at_=plOf c.at_:=rfl
   omega
  by_cases ec:e=c
  ·subst ec
   have hmem:e.off∈(st.granted j e).recs:=clearT_recs (List.mem_of_getElem? (List.getElem?_set_self (List.getElem?_eq_some_iff.1 hj).1)) (fun _ z hz hcl=>hnc z hz hcl)
   have:=List.any_eq_false.1 dh e.off hmem
   have hoff:hindB e.off d=true:=by
    unfold hindB at hed ⊢
    split at hed
    ·cases hed
    ·rename_i h
     rw [if_neg (by exact h)]
     rfl
   exact this hoff
  ·have hmem0:e∈(st.offAt j c).recs:=by
    obtain ⟨i,hi⟩:=List.mem_iff_getElem?.1 he
    have hne':j≠i:=fun h=>ec (by rw [← h,hj] at hi; exact (Option.some.inj hi).symm)
    exact List.mem_of_getElem? ((List.getElem?_set_ne hne').trans hi)
   have hmem:e∈(st.granted j c).recs:=clearT_recs hmem0 (fun _ z hz hcl=>hnc z hz hcl)
   exact List.any_eq_false.1 dh e hmem hed
theorem bestTo_is {st:RS} {j:Nat} {c:Rc} (hj:st.recs[j]?=some c) (hf:st.free c=true) (hb:∀ k d,st.recs[k]?=some d→st.free d=true→k≠j→aheadB c d=true∧aheadB d c=false):∀ m,j < m→m≤st.recs.length→st.bestTo m=some j
 | 0,h,_=>by omega
 | m+1,h,hm=>by
  obtain ⟨d,hd⟩:∃ d,st.recs[m]?=some d:=⟨_,List.getElem?_eq_getElem (by omega)⟩
  rw [bestTo_succ hd]
  by_cases e:m=j
  ·subst e
   rw [hj] at hd
   cases hd
   have:st.better (st.bestTo m) c=true:=by
    cases hbt:st.bestTo m with
    | none=>rfl
    | some k =>
     obtain ⟨hk,d,hd,hdf⟩:=bestTo_at hbt
     unfold RS.better
     simp only [hd]
     exact (hb k d hd hdf (by omega)).1
   rw [hf,this]; rfl
  ·rw [bestTo_is hj hf hb m (by omega) (by omega)]
   have:(st.free d && st.better (some j) d)=false:=by
    cases hdf:st.free d with
    | false=>rfl
    | true =>
     unfold RS.better
     simp only [hj]
     exact (hb m d hd hdf e).2
   rw [this]; rfl
theorem again_best {N:Nat} {st:RS} (F:st.Fit N) {j:Nat} {c:Rc} (hj:st.recs[j]?=some c) (hf:st.free c=true) (hb:∀ k d,st.recs[k]?=some d→st.free d=true→k≠j→aheadB c d=true∧aheadB d c=false):(st.grant j c).againT=st.againT :=
 (againT_step F (bestTo_is hj hf hb _ (List.getElem?_eq_some_iff.1 hj).1 (Nat.le_refl _)) hj hf).symm
theorem grant_read {N:Nat} {st:RS} (F:st.Fit N) {j:Nat} {c:Rc} (hj:st.recs[j]?=some c) (hw:c.waits=true) (hr:c.write=false) (hn:c.at_≠c.who.lab):∃ t,st.txOf c.who=some t∧st.grant j c=(st.offAt j c).tell c.who ⟨0,0,st.reads t.step⟩:=by
 obtain ⟨m,t,G⟩:=granting F hj hw
 obtain ⟨a1,a2,a3,a4,a5,a6,a7⟩:=G.asks
 obtain ⟨k,hk⟩:=List.mem_iff_getElem?.1 G.mem
 refine ⟨t,txOf_at F.uniq hk G.who,?_⟩
 have hg:st.granted j c=st.offAt j c:=by
  unfold RS.granted RS.clearT
  rw [if_neg (by show ¬ c.write=true; rw [hr]; simp)]
 have hs:(st.granted j c).stepOf c.who=t.step:=stepOf_at G.fit.uniq G.at_ G.who
 have hd:(st.granted j c).does t.step=(st.granted j c).job m t t.step:=does_at G.fit.uniq G.at_ (by rw [G.who,a1])
 have hop:¬ t.step.op=5∧¬ t.step.op=4:=by
  constructor
  ·intro h; have:=a6.2 (.inr h); rw [hr] at this; cases this
  ·intro h; have:=a6.2 (.inl h); rw [hr] at this; cases this
 unfold RS.grant
 rw [hs,hd,hg]
 unfold RS.job
 rw [if_neg hop.1,if_neg hop.2]
 have hrd:(st.offAt j c).reads t.step=st.reads t.step:=by
  unfold RS.reads
  have e:sameL t.step.who.1 t.step.who.2.1 t.step.at_.1 t.step.at_.2=false:=by
   rw [show sameL t.step.who.1 t.step.who.2.1 t.step.at_.1 t.step.at_.2=(t.step.who.lab == t.step.at_) from sameL_eq t.step.who.lab t.step.at_,a1,a2]
   simpa using fun h=>hn h.symm
  rw [e]
  rfl
 rw [hrd]
theorem reads_same {st st':RS} {x:Stp} (h:∀ a k,st'.comm a k=st.comm a k) (hn:x.at_≠x.who.lab):st'.reads x=st.reads x:=by
 unfold RS.reads RS.readTo
 have e:sameL x.who.1 x.who.2.1 x.at_.1 x.at_.2=false:=by
  rw [show sameL x.who.1 x.who.2.1 x.at_.1 x.at_.2=(x.who.lab == x.at_) from sameL_eq x.who.lab x.at_]
  simpa using fun h=>hn h.symm
 rw [e]
 refine filterMap_cg (fun i _=>?_)
 unfold seePick RS.sees
 simp only [Bool.false_eq_true,if_false,h]
theorem tell_comm {st:RS} {x y:Wh} (h:x≠y) (a b:Ans):(st.tell x a).tell y b=(st.tell y b).tell x a:=by
 unfold RS.tell
 simp only [List.map_map]
 congr 1
 refine List.map_congr_left (fun t _=>?_)
 simp only [Function.comp]
 by_cases h1:t.who=x
 ·have h2:¬ t.who=y:=fun e=>h (h1.symm.trans e)
  simp [h1,h]
 ·by_cases h2:t.who=y
  ·simp [h2,Ne.symm h]
  ·simp [h1,h2]
theorem tell_off {st:RS} {x:Wh} {a:Ans} {j:Nat} {c:Rc}:(st.tell x a).offAt j c=(st.offAt j c).tell x a:=rfl
theorem idx_ne {N:Nat} {st:RS} (F:st.Fit N) (I:st.Inv) {j k:Nat} {c b:Rc} (hj:st.recs[j]?=some c) (hk:st.recs[k]?=some b) (hjk:j≠k) (wc:c.waits=true) (wb:b.waits=true):c.who≠b.who:=fun e=>by
 have hcb:=wait_one F (List.mem_of_getElem? hj) (List.mem_of_getElem? hk) wc wb e
 subst hcb
 obtain ⟨h1,e1⟩:=List.getElem?_eq_some_iff.1 hj
 obtain ⟨h2,e2⟩:=List.getElem?_eq_some_iff.1 hk
 have hp:=List.pairwise_iff_getElem.1 I.came
 rcases Nat.lt_or_gt_of_ne hjk with h | h
 ·have:=hp j k h1 h2 h
  rw [e1,e2] at this; omega
 ·have:=hp k j h2 h1 h
  rw [e1,e2] at this; omega
theorem offAt_comm {st:RS} {j k:Nat} (h:j≠k) (c b:Rc):(st.offAt j c).offAt k b=(st.offAt k b).offAt j c:=by
 unfold RS.offAt
 simp only
 rw [List.set_comm _ _ h]
theorem grant_comm {N:Nat} {st:RS} (F:st.Fit N) (I:st.Inv) {j k:Nat} {c b:Rc} (hj:st.recs[j]?=some c) (hk:st.recs[k]?=some b) (hjk:j≠k) (wc:c.waits=true) (wb:b.waits=true) (rc:c.write=false) (rb:b.write=false) (nc:c.at_≠c.who.lab) (nb:b.at_≠b.who.lab) :
  (st.grant j c).recs[k]?=some b∧(st.grant j c).grant k b=(st.grant k b).grant j c:=by
 have hne:=idx_ne F I hj hk hjk wc wb
 obtain ⟨tc,htc,ec⟩:=grant_read F hj wc rc nc
 obtain ⟨tb,htb,eb⟩:=grant_read F hk wb rb nb
 have hkc:(st.grant j c).recs[k]?=some b:=by rw [ec]; exact (List.getElem?_set_ne hjk).trans hk
 have hjb:(st.grant k b).recs[j]?=some c:=by rw [eb]; exact (List.getElem?_set_ne (Ne.symm hjk)).trans hj
 obtain ⟨tb',htb',eb'⟩:=grant_read (F.grant hj wc) hkc wb rb nb
 obtain ⟨tc',htc',ec'⟩:=grant_read (F.grant hk wb) hjb wc rc nc
 have hfT:∀ (a:Ans) (t:Tx),({ t with ready:=true,told:=a }:Tx).who=t.who:=fun _ _=>rfl
 have h1:tb'=tb:=by
  rw [ec] at htb'
  have:=mapTx_other (st:=st.offAt j c) (x:=c.who) (f:=fun t=>{ t with ready:=true,told:=⟨0,0,st.reads tc.step⟩ }) (fun _=>rfl) (y:=b.who) (Ne.symm hne)
  have e:((st.offAt j c).tell c.who ⟨0,0,st.reads tc.step⟩).txOf b.who=st.txOf b.who:=this
  rw [e,htb] at htb'
  exact (Option.some.inj htb').symm
 have h2:tc'=tc:=by
  rw [eb] at htc'
  have:=mapTx_other (st:=st.offAt k b) (x:=b.who) (f:=fun t=>{ t with ready:=true,told:=⟨0,0,st.reads tb.step⟩ }) (fun _=>rfl) (y:=c.who) hne
  have e:((st.offAt k b).tell b.who ⟨0,0,st.reads tb.step⟩).txOf c.who=st.txOf c.who:=this
  rw [e,htc] at htc'
  exact (Option.some.inj htc').symm
 subst h1 h2
 have hsb:∀ t,st.txOf b.who=some t→t.step.at_≠t.step.who.lab:=fun t ht=>by
  obtain ⟨t',_,_,hx,_,hask⟩:=req_wait F (List.mem_of_getElem? hk) wb
  rw [ht] at hx; cases hx
  rw [hask.1,hask.2.1]; exact nb
 have hsc:∀ t,st.txOf c.who=some t→t.step.at_≠t.step.who.lab:=fun t ht=>by
  obtain ⟨t',_,_,hx,_,hask⟩:=req_wait F (List.mem_of_getElem? hj) wc
  rw [ht] at hx; cases hx
  rw [hask.1,hask.2.1]; exact nc
 have r1:(st.grant j c).reads tb'.step=st.reads tb'.step:=by
  rw [ec]
  exact reads_same (fun a k=>mapTx_comm (st:=st.offAt j c) (x:=c.who) (f:=fun t=>{ t with ready:=true,told:=⟨0,0,st.reads tc'.step⟩ }) (fun _=>rfl) (fun _=>rfl) a k) (hsb _ htb)
 have r2:(st.grant k b).reads tc'.step=st.reads tc'.step:=by
  rw [eb]
  exact reads_same (fun a k'=>mapTx_comm (st:=st.offAt k b) (x:=b.who) (f:=fun t=>{ t with ready:=true,told:=⟨0,0,st.reads tb'.step⟩ }) (fun _=>rfl) (fun _=>rfl) a k') (hsc _ htc)
 refine ⟨hkc,?_⟩
 rw [eb',ec',r1,r2,ec,eb,tell_off,tell_off,offAt_comm hjk,tell_comm hne]
def Above (st:RS) (a:Nat):Prop:=∀ d∈st.recs,st.free d=true→a < plOf d.at_∨(plOf d.at_=a∧d.at_≠d.who.lab)
theorem Above.grant {N:Nat} {st:RS} (F:st.Fit N) (I:st.Inv) {a j:Nat} {c:Rc} (h:Above st a) (hj:st.recs[j]?=some c) (hw:c.waits=true) (hh:st.hindered c=false) (hc:plOf c.at_=a):Above (st.grant j c) a:=fun d hd hf=>by
 by_cases hp:plOf d.at_≤plOf c.at_
 ·obtain ⟨h1,h2,_⟩:=grant_frees F I hj hw hh hd hf hp
  exact h d h1 h2
 ·exact .inl (by omega)
theorem low_read {st:RS} (I:st.Inv) {c:Rc} (hc:c∈st.recs) (h:c.at_≠c.who.lab):c.write=false:=by
 cases hw:c.write with
 | false=>rfl
 | true=>exact absurd ((I.low c hc).2 hw) h
theorem free_stays {N:Nat} {st:RS} (F:st.Fit N) {k:Nat} {c b:Rc} (hk:st.recs[k]?=some b) (wb:b.waits=true) (rb:b.write=false) (nb:b.at_≠b.who.lab) (hat:b.at_=c.at_) (hf:st.free c=true):(st.grant k b).free c=true:=by
 obtain ⟨h1,h2⟩:=free_two hf
 obtain ⟨tb,_,eb⟩:=grant_read F hk wb rb nb
 refine free_of h1 ?_
 unfold RS.hindered at h2 ⊢
 rw [List.any_eq_false] at h2 ⊢
 intro e he
 have he':e∈st.recs.set k b.off:=by rw [eb] at he; exact he
 rcases List.mem_or_eq_of_mem_set he' with h | h
 ·exact h2 e h
 ·subst h
  unfold hindB
  rw [show sameL b.off.who.1 b.off.who.2.1 c.at_.1 c.at_.2=(b.who.lab == c.at_) from sameL_eq b.who.lab c.at_]
  have:(b.who.lab == c.at_)=false:=by rw [← hat]; simpa using fun h=>nb h.symm
  rw [this]
  simp
theorem best_lt {st:RS} {j:Nat} {c:Rc} (hj:st.recs[j]?=some c) (hf:st.free c=true):∀ m,j < m→m≤st.recs.length→st.bestTo m≠none:=by
 intro m
 induction m with
 | zero=>intro h; omega
 | succ m ih =>
  intro h hm
  obtain ⟨d,hd⟩:∃ d,st.recs[m]?=some d:=⟨_,List.getElem?_eq_getElem (by omega)⟩
  rw [bestTo_succ hd]
  split
  ·simp
  ·rename_i hb
   by_cases e:m=j
   ·subst e
    rw [hj] at hd; cases hd
    intro hn
    rw [hn,hf] at hb
    exact hb rfl
   ·exact ih (by omega) (by omega)
theorem best_some {st:RS} {j:Nat} {c:Rc} (hj:st.recs[j]?=some c) (hf:st.free c=true):st.bestTo st.recs.length≠none :=
 best_lt hj hf _ (List.getElem?_eq_some_iff.1 hj).1 (Nat.le_refl _)
theorem ahead_trans {a b c:Rc} (h1:aheadB a b=true) (h2:aheadB b c=true):aheadB a c=true:=by
 unfold aheadB at *
 generalize 8*a.at_.1+a.at_.2=pa at *
 generalize 8*b.at_.1+b.at_.2=pb at *
 generalize 8*c.at_.1+c.at_.2=pc at *
 generalize ownL a=oa at *
 generalize ownL b=ob at *
 generalize ownL c=oc at *
 by_cases e1:pa=pb
 ·by_cases e2:pb=pc
  ·subst e1 e2
   simp only [if_true] at h1 h2 ⊢
   cases oa<;>cases ob<;>cases oc<;>simp_all
   all_goals omega
  ·subst e1
   rw [if_neg e2] at h2 ⊢; exact h2
 ·rw [if_neg e1] at h1
  have h1':=of_decide_eq_true h1
  by_cases e2:pb=pc
  ·subst e2
   rw [if_neg e1]; exact h1
  ·rw [if_neg e2] at h2
   have h2':=of_decide_eq_true h2
   rw [if_neg (by omega)]
   exact decide_eq_true (by omega)
theorem ahead_irr (a:Rc):aheadB a a=false:=by
 unfold aheadB
 rw [if_pos rfl,if_pos rfl]
 exact decide_eq_false (by omega)
theorem best_first {st:RS} {k j:Nat} {b c:Rc} (hb:st.bestTo st.recs.length=some k) (hk:st.recs[k]?=some b) (hj:st.recs[j]?=some c) (hf:st.free c=true):aheadB c b=false:=by
 have gen:∀ m,m≤st.recs.length→∀ k b,st.bestTo m=some k→st.recs[k]?=some b→∀ i d,i < m→st.recs[i]?=some d→st.free d=true→aheadB d b=false:=by
  intro m
  induction m with
  | zero=>intro _ k b h; cases h
  | succ m ih =>
   intro hm k b hb hkb i d hi hd hdf
   obtain ⟨x,hx⟩:∃ x,st.recs[m]?=some x:=⟨_,List.getElem?_eq_getElem (by omega)⟩
   rw [bestTo_succ hx] at hb
   split at hb
   ·rename_i hbt
    cases hb
    rw [hx] at hkb; cases hkb
    simp only [Bool.and_eq_true] at hbt
    by_cases e:i=m
    ·subst e; rw [hx] at hd; cases hd; exact ahead_irr _
    ·cases hbo:st.bestTo m with
     | none=>exact absurd hbo (by
       intro hn
       have:=best_lt hd hdf m (by omega) (by omega)
       exact this hn)
     | some k' =>
      obtain ⟨_,b',hb',_⟩:=bestTo_at hbo
      have h1:=ih (by omega) k' b' hbo hb' i d (by omega) hd hdf
      cases h2:aheadB d b with
      | false=>rfl
      | true =>
       have h3:aheadB b b'=true:=by
        have:=hbt.2
        rw [hbo] at this
        unfold RS.better at this
        simp only [hb'] at this
        exact this
       rw [ahead_trans h2 h3] at h1; cases h1
   ·rename_i hbt
    by_cases e:i=m
    ·subst e
     rw [hx] at hd; cases hd
     cases h2:aheadB d b with
     | false=>rfl
     | true =>
      exfalso
      apply hbt
      rw [hdf,hb]
      unfold RS.better
      simp only [hkb]
      exact h2
    ·exact ih (by omega) k b hb hkb i d (by omega) hd hdf
 exact gen _ (Nat.le_refl _) k b hb hk j c (List.getElem?_eq_some_iff.1 hj).1 hj hf
theorem again_read {N:Nat}:∀ (f:Nat) {st:RS},st.Fit N→st.Inv→st.waitN≤f→∀ {a j:Nat} {c:Rc},Above st a→st.recs[j]?=some c→st.free c=true→plOf c.at_=a→c.at_≠c.who.lab→(st.grant j c).againT=st.againT
 | 0,st,_,_,hf,a,j,c,_,hj,hfr,_,_=>by
  exfalso
  have:c∈st.recs.filter (·.waits):=List.mem_filter.2 ⟨List.mem_of_getElem? hj,(free_two hfr).1⟩
  have h0:st.recs.filter (·.waits)=[]:=List.eq_nil_of_length_eq_zero (by unfold RS.waitN at hf; omega)
  rw [h0] at this; cases this
 | f+1,st,F,I,hf,a,j,c,hA,hj,hfr,hc,hn=>by
  obtain ⟨wc,hc'⟩:=free_two hfr
  have hcm:=List.mem_of_getElem? hj
  cases hb:st.bestTo st.recs.length with
  | none=>exact absurd hb (best_some hj hfr)
  | some k =>
   obtain ⟨hk,b,hkb,hbf⟩:=bestTo_at hb
   have hstep:=againT_step F hb hkb hbf
   by_cases e:k=j
   ·subst e
    rw [hj] at hkb; cases hkb
    exact hstep.symm
   ·obtain ⟨wb,hb'⟩:=free_two hbf
    have hbm:=List.mem_of_getElem? hkb
    have hbest:=best_first hb hkb hj hfr
    have hbp:plOf b.at_=a∧b.at_≠b.who.lab:=by
     rcases hA b hbm hbf with h | h
     ·exfalso
      unfold aheadB at hbest
      rw [place_int (F.recAt c hcm),place_int (F.recAt b hbm)] at hbest
      rw [if_neg (by omega)] at hbest
      simp at hbest
      omega
     ·exact h
    have hat:b.at_=c.at_:=by
     rw [← labOf_plOf (labB_mk (F.recAt b hbm)),← labOf_plOf (labB_mk (F.recAt c hcm)),hbp.1,hc]
    have rb:=low_read I hbm hbp.2
    have rc:=low_read I hcm hn
    obtain ⟨g1,g2⟩:=grant_comm F I hkb hj e wb wc rb rc hbp.2 hn
    obtain ⟨g3,_⟩:=grant_comm F I hj hkb (Ne.symm e) wc wb rc rb hn hbp.2
    obtain ⟨q1,n1,hq1,hn1,hw1⟩:=ok_who (F.recW hbm)
    obtain ⟨q2,n2,hq2,hn2,hw2⟩:=ok_who (F.recW hcm)
    have I1:=(sim_grant F I hkb wb hb' hw1 hq1).2
    have I2:=(sim_grant F I hj wc hc' hw2 hq2).2
    have w1:=grant_waitN F hkb wb
    have w2:=grant_waitN F hj wc
    have s1:=again_read f (F.grant hkb wb) I1 (by omega) (hA.grant F I hkb wb hb' hbp.1) g1 (free_stays F hkb wb rb hbp.2 hat hfr) hc hn
    have s2:=again_read f (F.grant hj wc) I2 (by omega) (hA.grant F I hj wc hc' hc) g3 (free_stays F hj wc rc hn hat.symm hbf) hbp.1 hbp.2
    rw [hstep,← s1,g2,s2]
end Go.Proofs.Ytpbcplfpjcacfaa
