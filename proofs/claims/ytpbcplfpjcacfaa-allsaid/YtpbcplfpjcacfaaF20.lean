import Derived.Test.YtpbcplfpjcacfaaF19
namespace Go.Proofs.Ytpbcplfpjcacfaa
open Go.RowKit
set_option maxRecDepth 100000
set_option maxHeartbeats 8000000
def Rest (st:RS) (a q:Nat) (l:List Nat):Prop:=∀ d∈st.recs,st.free d=true→a < plOf d.at_∨(plOf d.at_=a∧(q < plOf d.who.lab∨(plOf d.who.lab=q∧numOf d.who∈l)))
def Ord (st:RS) (q:Nat) (l:List Nat):Prop:=l.Pairwise (fun m m'=>∀ c∈st.recs,∀ d∈st.recs,c.waits=true→d.waits=true→c.who=whoOf q m→d.who=whoOf q m'→c.came < d.came)
theorem pl_lab {a b:Lab} (ha:a.ok) (hb:b.ok) (h:plOf a=plOf b):a=b:=by
 rw [← labOf_plOf (labB_mk ha),h,labOf_plOf (labB_mk hb)]
theorem pl_who {x:Wh} {q n:Nat} (hx:x=whoOf q n) (hq:q < 32):plOf x.lab=q:=by rw [hx,whoOf_lab,plOf_labOf hq]
theorem grant_back {N:Nat} {st:RS} (F:st.Fit N) {j:Nat} {c:Rc} (hj:st.recs[j]?=some c) (hw:c.waits=true) {d:Rc} (hd:d∈(st.grant j c).recs) (wd:d.waits=true):d∈st.recs∧d.who≠c.who:=by
 rw [grant_recs] at hd
 have hsub:=(clearT_sub (st.offAt j c) c.off).mem hd
 refine ⟨?_,fun e=>?_⟩
 ·rcases List.mem_or_eq_of_mem_set hsub with h | h
  ·exact h
  ·rw [h] at wd; cases wd
 ·have:=off_nowait F hj hw d hsub e
  rw [wd] at this; cases this
theorem sim_settle1 {N:Nat} {st:RS} (F:st.Fit N) (I:st.Inv) {j:Nat} {c:Rc} (hj:st.recs[j]?=some c) (hw:c.waits=true) {q n a:Nat} (hc:c.who=whoOf q n) (hq:q < 32) :
  st.toPS.settle1 q a n=if plOf c.at_=a∧st.hindered c=false then (st.grant j c).toPS else st.toPS:=by
 have hcm:=List.mem_of_getElem? hj
 obtain ⟨t,_,_,_,hreq,hask⟩:=req_wait F hcm hw
 have hr:((st.toPS.t q).ses n).req.at_=c.at_:=by rw [toPS_ses,← hc]; show (st.reqOf c.who).at_=_; rw [hreq]; exact hask.2.1
 unfold PS.settle1
 rw [hr,sim_hind F I hcm hw hc hq]
 by_cases h:plOf c.at_=a∧st.hindered c=false
 ·rw [if_pos h,if_pos h,(sim_grant F I hj hw h.2 hc hq).1]
 ·rw [if_neg h,if_neg h]
theorem sim_settleL {N q a:Nat} (hq:q < 32) (ha:a≤q):∀ (l:List Nat) (st:RS),st.Fit N→st.Inv→l.Nodup→(∀ n∈l,∃ c∈st.recs,c.waits=true∧c.who=whoOf q n)→Ord st q l→Rest st a q l →
  ∃ st',st'.Fit N∧st'.Inv∧st'.toPS=PS.settleL q a st.toPS l∧st'.againT=st.againT∧Rest st' a q []
 | [],st,F,I,_,_,_,hR=>⟨st,F,I,rfl,rfl,hR⟩
 | n :: l,st,F,I,hnd,hex,hO,hR=>by
  obtain ⟨hn1,hn2⟩:=List.nodup_cons.1 hnd
  obtain ⟨c,hcm,hw,hc⟩:=hex n (List.mem_cons_self)
  obtain ⟨j,hj⟩:=List.mem_iff_getElem?.1 hcm
  obtain ⟨hO1,hO2⟩:=List.pairwise_cons.1 hO
  have hcl:plOf c.who.lab=q:=pl_who hc hq
  have hcn:numOf c.who=n:=by rw [hc,numOf_whoOf]
  have hone:=sim_settle1 F I hj hw (a:=a) hc hq
  by_cases hgo:plOf c.at_=a∧st.hindered c=false
  ·rw [if_pos hgo] at hone
   obtain ⟨hca,hh⟩:=hgo
   have hfr:st.free c=true:=free_of hw hh
   have F1:=F.grant hj hw
   have I1:=(sim_grant F I hj hw hh hc hq).2
   have hag:(st.grant j c).againT=st.againT:=by
    by_cases hqa:q=a
    ·have hown:c.at_=c.who.lab:=pl_lab (F.recAt c hcm) (F.recW hcm).1 (by rw [hca,hcl,hqa])
     refine again_best F hj hfr (fun k d hd hdf hkj=>?_)
     have hdm:=List.mem_of_getElem? hd
     obtain ⟨wd,_⟩:=free_two hdf
     have hne:=idx_ne F I hd hj hkj wd hw
     have oc:ownL c=true:=by rw [ownL_eq,hown]; simp
     rcases hR d hdm hdf with h | ⟨h1,h2⟩
     ·unfold aheadB
      rw [place_int (F.recAt c hcm),place_int (F.recAt d hdm),if_neg (by omega),if_neg (by omega)]
      exact ⟨decide_eq_true (by omega),decide_eq_false (by omega)⟩
     ·rcases h2 with h2 | ⟨h2,h3⟩
      ·have od:ownL d=false:=by
        rw [ownL_eq]
        have:d.who.lab≠d.at_:=fun e=>by rw [e] at h2; omega
        simpa using this
       have hp:(plOf c.at_:Int)=(plOf d.at_:Int):=by omega
       unfold aheadB
       rw [place_int (F.recAt c hcm),place_int (F.recAt d hdm),if_pos hp,if_pos hp.symm,oc,od]
       exact ⟨rfl,rfl⟩
      ·have hdn:d.who=whoOf q (numOf d.who):=by
        obtain ⟨q',n',hq',hn',e⟩:=ok_who (F.recW hdm)
        have:q'=q:=by rw [← h2,pl_who e hq']
        rw [e,numOf_whoOf,this]
       have hin:numOf d.who∈l:=by
        rcases List.mem_cons.1 h3 with h | h
        ·exact absurd (by rw [hdn,h,hc]) hne
        ·exact h
       have hcame:=hO1 _ hin c hcm d hdm hw wd hc hdn
       have od:ownL d=true:=by
        rw [ownL_eq,pl_lab (F.recW hdm).1 (F.recAt d hdm) (by rw [h2,h1,hqa])]; simp
       have hp:(plOf c.at_:Int)=(plOf d.at_:Int):=by omega
       unfold aheadB
       rw [place_int (F.recAt c hcm),place_int (F.recAt d hdm),if_pos hp,if_pos hp.symm,oc,od]
       exact ⟨decide_eq_true hcame,decide_eq_false (by omega)⟩
    ·have hA:Above st a:=fun d hdm hdf=>by
      rcases hR d hdm hdf with h | ⟨h1,h2⟩
      ·exact .inl h
      ·refine .inr ⟨h1,fun e=>?_⟩
       rw [e] at h1
       rcases h2 with h2 | ⟨h2,_⟩<;>omega
     exact again_read st.waitN F I (Nat.le_refl _) hA hj hfr hca (fun e=>hqa (by rw [← hcl,← e,hca]))
   have hex1:∀ m∈l,∃ d∈(st.grant j c).recs,d.waits=true∧d.who=whoOf q m:=fun m hm=>by
    obtain ⟨d,hdm,wd,hdw⟩:=hex m (List.mem_cons_of_mem _ hm)
    refine ⟨d,?_,wd,hdw⟩
    rw [grant_recs]
    have hne:d.who≠c.who:=fun e=>hn1 (by
     have:=(whoOf_inj (hdw.symm.trans (e.trans hc))).2
     rw [← this]; exact hm)
    have hd0:d∈(st.offAt j c).recs:=by
     obtain ⟨i,hi⟩:=List.mem_iff_getElem?.1 hdm
     have:j≠i:=fun e=>hne (by rw [← e,hj] at hi; rw [Option.some.inj hi])
     exact List.mem_of_getElem? ((List.getElem?_set_ne this).trans hi)
    refine clearT_recs hd0 (fun _ z hz hcl2 e=>?_)
    have hab:=(clr_above (F.offAt hj) (I.off hj hw hh) hz hcl2).2.2.2
    rw [e,pl_who hdw hq] at hab
    rename_i hwr
    have hown:c.at_=c.who.lab:=(I.low c hcm).2 hwr
    have h3:plOf c.off.at_=plOf c.at_:=rfl
    rw [h3,hown,hcl] at hab
    omega
   have hO':Ord (st.grant j c) q l:=hO2.imp (fun {m m'} h x hx y hy wx wy=>h x (grant_back F hj hw hx wx).1 y (grant_back F hj hw hy wy).1 wx wy)
   have hR':Rest (st.grant j c) a q l:=fun d hd hdf=>by
    by_cases hp:plOf d.at_≤a
    ·obtain ⟨h1,h2,h3⟩:=grant_frees F I hj hw hh hd hdf (by rw [hca]; exact hp)
     rcases hR d h1 h2 with h | ⟨h4,h5⟩
     ·exact .inl h
     ·refine .inr ⟨h4,?_⟩
      rcases h5 with h5 | ⟨h5,h6⟩
      ·exact .inl h5
      ·refine .inr ⟨h5,?_⟩
       rcases List.mem_cons.1 h6 with h7 | h7
       ·exfalso
        obtain ⟨q',n',hq',hn',e⟩:=ok_who (F.recW h1)
        have hqq:q'=q:=by rw [← h5,pl_who e hq']
        have hnn:n'=n:=by rw [← h7,e,numOf_whoOf]
        exact h3 (by rw [e,hqq,hnn,hc])
       ·exact h7
    ·exact .inl (by omega)
   obtain ⟨st',f',i',e1,e2,e3⟩:=sim_settleL hq ha l (st.grant j c) F1 I1 hn2 hex1 hO' hR'
   exact ⟨st',f',i',by rw [e1,PS.settleL,hone],e2.trans hag,e3⟩
  ·rw [if_neg hgo] at hone
   have hR':Rest st a q l:=fun d hd hdf=>by
    rcases hR d hd hdf with h | ⟨h4,h5⟩
    ·exact .inl h
    ·refine .inr ⟨h4,?_⟩
     rcases h5 with h5 | ⟨h5,h6⟩
     ·exact .inl h5
     ·refine .inr ⟨h5,?_⟩
      rcases List.mem_cons.1 h6 with h7 | h7
      ·exfalso
       obtain ⟨q',n',hq',hn',e⟩:=ok_who (F.recW hd)
       have hqq:q'=q:=by rw [← h5,pl_who e hq']
       have hnn:n'=n:=by rw [← h7,e,numOf_whoOf]
       obtain ⟨wd,hdh⟩:=free_two hdf
       have:=wait_one F hd hcm wd hw (by rw [e,hqq,hnn,hc])
       subst this
       exact hgo ⟨h4,hdh⟩
      ·exact h7
   obtain ⟨st',f',i',e1,e2,e3⟩:=sim_settleL hq ha l st F I hn2 (fun m hm=>hex m (List.mem_cons_of_mem _ hm)) hO2 hR'
   exact ⟨st',f',i',by rw [e1,PS.settleL,hone],e2,e3⟩
theorem que_has {N:Nat} {st:RS} (F:st.Fit N) {q n:Nat} (h:n∈st.queOf q):∃ c∈st.recs,c.waits=true∧c.who=whoOf q n:=by
 unfold RS.queOf at h
 obtain ⟨c,hc,hn⟩:=List.mem_map.1 h
 obtain ⟨h1,h2⟩:=List.mem_filter.1 hc
 simp only [Bool.and_eq_true,beq_iff_eq] at h2
 exact ⟨c,h1,h2.1,who_num (F.recW h1) h2.2 hn⟩
theorem que_mem {st:RS} {q:Nat} {c:Rc} (hc:c∈st.recs) (hw:c.waits=true) (hl:c.who.lab=labOf q):numOf c.who∈st.queOf q:=by
 unfold RS.queOf
 exact List.mem_map.2 ⟨c,List.mem_filter.2 ⟨hc,by rw [hw,hl]; simp⟩,rfl⟩
theorem que_ord {N:Nat} {st:RS} (F:st.Fit N) (I:st.Inv) (q:Nat):Ord st q (st.queOf q):=by
 unfold Ord RS.queOf
 rw [List.pairwise_map]
 have hp:=I.came.sublist (List.filter_sublist (p:=fun c:Rc=>c.waits && c.who.lab == labOf q))
 refine List.Pairwise.imp_of_mem (fun {a b} ha hb h=>?_) hp
 intro c hc d hd wc wd hcw hdw
 obtain ⟨a1,a2⟩:=List.mem_filter.1 ha
 obtain ⟨b1,b2⟩:=List.mem_filter.1 hb
 simp only [Bool.and_eq_true,beq_iff_eq] at a2 b2
 have e1:=wait_one F hc a1 wc a2.1 (by rw [hcw,← who_num (F.recW a1) a2.2 rfl])
 have e2:=wait_one F hd b1 wd b2.1 (by rw [hdw,← who_num (F.recW b1) b2.2 rfl])
 rw [e1,e2]; exact h
def RestF (st:RS) (a q:Nat):Prop:=∀ d∈st.recs,st.free d=true→a < plOf d.at_∨(plOf d.at_=a∧q≤plOf d.who.lab)
theorem sim_settleQ {N q a:Nat} (hq:q < 32) (ha:a≤q) {st:RS} (F:st.Fit N) (I:st.Inv) (PF:st.toPS.Fit) (hR:RestF st a q) :
  ∃ st',st'.Fit N∧st'.Inv∧st'.toPS=st.toPS.settleQ q a∧st'.againT=st.againT∧RestF st' a (q+1):=by
 obtain ⟨st',f',i',e1,e2,e3⟩:=sim_settleL hq ha (st.queOf q) st F I (PF.tr q hq).queN (fun n hn=>que_has F hn) (que_ord F I q) (fun d hd hdf=>by
  rcases hR d hd hdf with h | ⟨h1,h2⟩
  ·exact .inl h
  ·refine .inr ⟨h1,?_⟩
   rcases Nat.lt_or_ge q (plOf d.who.lab) with h | h
   ·exact .inl h
   ·have:plOf d.who.lab=q:=by omega
    refine .inr ⟨this,que_mem hd (free_two hdf).1 ?_⟩
    rw [← this,labOf_plOf (labB_mk (F.recW hd).1)])
 refine ⟨st',f',i',e1,e2,fun d hd hdf=>?_⟩
 rcases e3 d hd hdf with h | ⟨h1,h2⟩
 ·exact .inl h
 ·refine .inr ⟨h1,?_⟩
  rcases h2 with h2 | ⟨_,h2⟩
  ·omega
  ·cases h2
theorem sim_settleF {N a:Nat} {st:RS} (F:st.Fit N) (I:st.Inv) (PF:st.toPS.Fit) (hR:RestF st a a):∀ k,a+k≤32→∃ st',st'.Fit N∧st'.Inv∧st'.toPS=st.toPS.settleF a k∧st'.againT=st.againT∧RestF st' a (a+k)
 | 0,_=>⟨st,F,I,rfl,rfl,hR⟩
 | k+1,h=>by
  obtain ⟨s1,f1,i1,e1,e2,e3⟩:=sim_settleF F I PF hR k (by omega)
  obtain ⟨s2,f2,i2,e4,e5,e6⟩:=sim_settleQ (q:=a+k) (a:=a) (by omega) (by omega) f1 i1 (by rw [e1]; exact PF.settleF a k (by omega)) e3
  exact ⟨s2,f2,i2,by rw [e4,e1]; rfl,e5.trans e2,e6⟩
theorem sim_settleTo {N:Nat} {st:RS} (F:st.Fit N) (I:st.Inv) (PF:st.toPS.Fit):∀ a,a≤32→∃ st':RS,st'.Fit N∧st'.Inv∧st'.toPS=st.toPS.settleTo a∧st'.againT=st.againT∧∀ d∈st'.recs,st'.free d=true→a≤plOf d.at_
 | 0,_=>⟨st,F,I,rfl,rfl,fun _ _ _=>Nat.zero_le _⟩
 | a+1,h=>by
  obtain ⟨s1,f1,i1,e1,e2,e3⟩:=sim_settleTo F I PF a (by omega)
  have PF1:s1.toPS.Fit:=by rw [e1]; exact PF.settleTo a (by omega)
  obtain ⟨s2,f2,i2,e4,e5,e6⟩:=sim_settleF f1 i1 PF1 (a:=a) (fun d hd hdf=>by
   have h1:=e3 d hd hdf
   have h2:=(i1.low d hd).1
   rcases Nat.lt_or_ge a (plOf d.at_) with h | h
   ·exact .inl h
   ·exact .inr ⟨by omega,by omega⟩) (32 - a) (by omega)
  refine ⟨s2,f2,i2,by rw [e4,e1]; rfl,e5.trans e2,fun d hd hdf=>?_⟩
  rcases e6 d hd hdf with h | ⟨_,h2⟩
  ·omega
  ·have:plOf d.who.lab < 32:=plOf_lt (labB_mk (f2.recW hd).1)
   omega
theorem again_still {st:RS} (h:∀ d∈st.recs,st.free d=false):st.againT=st:=by
 have hb:st.bestTo st.recs.length=none:=by
  cases hbt:st.bestTo st.recs.length with
  | none=>rfl
  | some k =>
   obtain ⟨_,c,hc,hf⟩:=bestTo_at hbt
   rw [h c (List.mem_of_getElem? hc)] at hf; cases hf
 unfold RS.againT
 cases st.waitN with
 | zero=>rfl
 | succ f=>rw [RS.againN,hb]
theorem sim_again {N:Nat} {st:RS} (F:st.Fit N) (I:st.Inv) (PF:st.toPS.Fit):st.againT.toPS=st.toPS.settleT∧st.againT.Inv:=by
 obtain ⟨s,f,i,e1,e2,e3⟩:=sim_settleTo F I PF 32 (Nat.le_refl _)
 have hn:s.againT=s:=again_still (fun d hd=>by
  cases hf:s.free d with
  | false=>rfl
  | true =>
   have:=e3 d hd hf
   have h2:plOf d.at_ < 32:=plOf_lt (labB_mk (f.recAt d hd))
   omega)
 rw [← e2,hn]
 exact ⟨e1,i⟩
def leadW (w:Wtg):Nat→Nat→Nat→Bool
 | 0,_,_=>false
 | n+1,x,y=>w x y || (List.range 4).any (fun k=>w x k && leadW w n k y)
theorem leadW_step {w:Wtg} {n x y:Nat}:leadW w (n+1) x y=true↔w x y=true∨∃ k,k < 4∧w x k=true∧leadW w n k y=true:=by
 rw [leadW,Bool.or_eq_true,List.any_eq_true]
 simp only [List.mem_range,Bool.and_eq_true]
theorem leadW_up {w:Wtg} {y:Nat}:∀ {n x:Nat},leadW w n x y=true→leadW w (n+1) x y=true
 | 0,x,h=>by cases h
 | n+1,x,h=>by
  rcases leadW_step.1 h with h | ⟨k,hk,h1,h2⟩
  ·exact leadW_step.2 (.inl h)
  ·exact leadW_step.2 (.inr ⟨k,hk,h1,leadW_up h2⟩)
def cnt4 (f:Nat→Bool):Nat:=(f 0).toNat+(f 1).toNat+(f 2).toNat+(f 3).toNat
theorem cnt4_le (f:Nat→Bool):cnt4 f≤4:=by
 unfold cnt4
 cases f 0<;>cases f 1<;>cases f 2<;>cases f 3<;>decide
theorem cnt4_lt {f g:Nat→Bool} (h:∀ x,f x=true→g x=true) (hn:¬ ∀ x,x < 4→g x=true→f x=true):cnt4 f < cnt4 g:=by
 have h0:=h 0
 have h1:=h 1
 have h2:=h 2
 have h3:=h 3
 have hn':¬ ((g 0=true→f 0=true)∧(g 1=true→f 1=true)∧(g 2=true→f 2=true)∧(g 3=true→f 3=true)):=fun ⟨a,b,c,d⟩=>hn (fun x hx=>by
  rcases (show x=0∨x=1∨x=2∨x=3 by omega) with rfl | rfl | rfl | rfl<;>assumption)
 unfold cnt4
 generalize f 0=a0 at *
 generalize f 1=a1 at *
 generalize f 2=a2 at *
 generalize f 3=a3 at *
 generalize g 0=b0 at *
 generalize g 1=b1 at *
 generalize g 2=b2 at *
 generalize g 3=b3 at *
 clear h hn
 revert h0 h1 h2 h3 hn'
 revert a0 a1 a2 a3 b0 b1 b2 b3
 decide
theorem leadW_stop {w:Wtg} {y n:Nat} (h:∀ x,x < 4→leadW w (n+1) x y=true→leadW w n x y=true):∀ m x,x < 4→leadW w (n+1+m) x y=true→leadW w n x y=true
 | 0,x,hx,hl=>h x hx hl
 | m+1,x,hx,hl=>by
  refine h x hx ?_
  rcases leadW_step.1 hl with h1 | ⟨k,hk,h1,h2⟩
  ·exact leadW_step.2 (.inl h1)
  ·exact leadW_step.2 (.inr ⟨k,hk,h1,leadW_stop h m k hk h2⟩)
theorem leadW_more {w:Wtg} {y n m x:Nat} (h:leadW w n x y=true):leadW w (n+m) x y=true:=by
 induction m with
 | zero=>exact h
 | succ m ih=>exact leadW_up ih
theorem leadW_five {w:Wtg} {x y:Nat} (hx:x < 4) (h:leadW w 5 x y=true):leadW w 4 x y=true:=by
 by_cases s0:∀ x,x < 4→leadW w 1 x y=true→leadW w 0 x y=true
 ·exact leadW_more (m:=4) (leadW_stop s0 4 x hx h)
 by_cases s1:∀ x,x < 4→leadW w 2 x y=true→leadW w 1 x y=true
 ·exact leadW_more (m:=3) (leadW_stop s1 3 x hx h)
 by_cases s2:∀ x,x < 4→leadW w 3 x y=true→leadW w 2 x y=true
 ·exact leadW_more (m:=2) (leadW_stop s2 2 x hx h)
 by_cases s3:∀ x,x < 4→leadW w 4 x y=true→leadW w 3 x y=true
 ·exact leadW_more (m:=1) (leadW_stop s3 1 x hx h)
 by_cases s4:∀ x,x < 4→leadW w 5 x y=true→leadW w 4 x y=true
 ·exact s4 x hx h
 exfalso
 have c0:=cnt4_lt (f:=fun x=>leadW w 0 x y) (g:=fun x=>leadW w 1 x y) (fun x h=>leadW_up h) s0
 have c1:=cnt4_lt (f:=fun x=>leadW w 1 x y) (g:=fun x=>leadW w 2 x y) (fun x h=>leadW_up h) s1
 have c2:=cnt4_lt (f:=fun x=>leadW w 2 x y) (g:=fun x=>leadW w 3 x y) (fun x h=>leadW_up h) s2
 have c3:=cnt4_lt (f:=fun x=>leadW w 3 x y) (g:=fun x=>leadW w 4 x y) (fun x h=>leadW_up h) s3
 have c4:=cnt4_lt (f:=fun x=>leadW w 4 x y) (g:=fun x=>leadW w 5 x y) (fun x h=>leadW_up h) s4
 have c5:=cnt4_le (fun x=>leadW w 5 x y)
 omega
theorem absorb (a b:Bool):(a || (a && b))=a:=by cases a<;>cases b<;>rfl
theorem absorb' (a b:Bool):(a || (b && a))=a:=by cases a<;>cases b<;>rfl
theorem toTo_at (w:Wtg) (v f:Nat):∀ k x y,w.toTo v f k x y=if x=f∧y < k then w x y || (w x v && w v y) else w x y
 | 0,x,y=>by rw [if_neg (by omega)]; rfl
 | k+1,x,y=>by
  have e1:w.toTo v f k f v=w f v:=by
   rw [toTo_at w v f k f v]
   split
   ·exact absorb _ _
   ·rfl
  have e2:w.toTo v f k v k=w v k:=by rw [toTo_at w v f k v k,if_neg (by omega)]
  have e3:=toTo_at w v f k x y
  rw [Wtg.toTo,e1,e2]
  by_cases h:x=f∧y=k
  ·obtain ⟨rfl,rfl⟩:=h
   rw [if_pos (show x=x∧y < y+1 from ⟨rfl,by omega⟩)]
   rw [if_neg (by omega)] at e3
   cases hc:(w x v && w v y) with
   | false=>rw [if_neg (by simp),e3,Bool.or_false]
   | true=>rw [if_pos rfl,Bool.or_true]; unfold Wtg.set; rw [if_pos ⟨rfl,rfl⟩]
  ·have e4:(if (w f v && w v k)=true then (w.toTo v f k).set f k true else w.toTo v f k) x y=w.toTo v f k x y:=by
    split
    ·unfold Wtg.set; rw [if_neg h]
    ·rfl
   rw [e4,e3]
   by_cases h2:x=f∧y < k
   ·rw [if_pos h2,if_pos ⟨h2.1,by omega⟩]
   ·rw [if_neg h2,if_neg (by omega)]
theorem fromTo_at (w:Wtg) (v:Nat):∀ k x y,w.fromTo v k x y=if x < k∧y < 4 then w x y || (w x v && w v y) else w x y
 | 0,x,y=>by rw [if_neg (by omega)]; rfl
 | k+1,x,y=>by
  have e2:∀ y,w.fromTo v k v y=w v y:=fun y=>by
   rw [fromTo_at w v k v y]
   split
   ·exact absorb' _ _
   ·rfl
  rw [Wtg.fromTo,toTo_at,e2]
  by_cases h:x=k
  ·subst h
   have e1:∀ y,w.fromTo v x x y=w x y:=fun y=>by rw [fromTo_at w v x x y,if_neg (by omega)]
   rw [e1,e1]
   by_cases hy:y < 4
   ·rw [if_pos ⟨rfl,hy⟩,if_pos ⟨by omega,hy⟩]
   ·rw [if_neg (by omega),if_neg (by omega)]
  ·rw [if_neg (by omega),fromTo_at w v k x y]
   by_cases h2:x < k∧y < 4
   ·rw [if_pos h2,if_pos ⟨by omega,h2.2⟩]
   ·rw [if_neg h2,if_neg (by omega)]
theorem viaTo_at (w:Wtg) (v x y:Nat) (hx:x < 4) (hy:y < 4):w.viaTo (v+1) x y=(w.viaTo v x y || (w.viaTo v x v && w.viaTo v v y)):=by
 rw [Wtg.viaTo,fromTo_at,if_pos ⟨hx,hy⟩]
theorem viaTo_tr (w:Wtg):∀ v,v≤4→∀ u,u < v→∀ a b,a < 4→b < 4→w.viaTo v a u=true→w.viaTo v u b=true→w.viaTo v a b=true
 | 0,_,u,h,_,_,_,_,_,_=>by omega
 | v+1,hv,u,hu,a,b,ha,hb,h1,h2=>by
  have ih:=viaTo_tr w v (by omega)
  rw [viaTo_at w v a u ha (by omega)] at h1
  rw [viaTo_at w v u b (by omega) hb] at h2
  rw [viaTo_at w v a b ha hb]
  simp only [Bool.or_eq_true,Bool.and_eq_true] at h1 h2 ⊢
  by_cases e:u=v
  ·subst e
   rcases h1 with h1 | h1<;>rcases h2 with h2 | h2
   ·exact .inr ⟨h1,h2⟩
   ·exact .inr ⟨h1,h2.2⟩
   ·exact .inr ⟨h1.1,h2⟩
   ·exact .inr ⟨h1.1,h2.2⟩
  ·have huv:u < v:=by omega
   rcases h1 with h1 | h1<;>rcases h2 with h2 | h2
   ·exact .inl (ih u huv a b ha hb h1 h2)
   ·exact .inr ⟨ih u huv a v ha (by omega) h1 h2.1,h2.2⟩
   ·exact .inr ⟨h1.1,ih u huv v b (by omega) hb h1.2 h2⟩
   ·exact .inr ⟨h1.1,h2.2⟩
theorem viaTo_up (w:Wtg):∀ v,v≤4→∀ a b,a < 4→b < 4→w a b=true→w.viaTo v a b=true
 | 0,_,_,_,_,_,h=>h
 | v+1,hv,a,b,ha,hb,h=>by rw [viaTo_at w v a b ha hb,viaTo_up w v (by omega) a b ha hb h]; rfl
theorem leadW_tr {w:Wtg} {v y:Nat} (hy:leadW w 4 v y=true):∀ {n x:Nat},x < 4→leadW w n x v=true→v < 4→leadW w 4 x y=true
 | 0,x,_,h,_=>by cases h
 | n+1,x,hx,h,hv=>by
  rcases leadW_step.1 h with h | ⟨k,hk,h1,h2⟩
  ·exact leadW_five hx (leadW_step.2 (.inr ⟨v,hv,h,hy⟩))
  ·exact leadW_five hx (leadW_step.2 (.inr ⟨k,hk,h1,leadW_tr hy hk h2 hv⟩))
theorem viaTo_lead (w:Wtg):∀ v,v≤4→∀ a b,a < 4→b < 4→w.viaTo v a b=true→leadW w 4 a b=true
 | 0,_,a,b,_,_,h=>leadW_more (n:=1) (m:=3) (leadW_step.2 (.inl h))
 | v+1,hv,a,b,ha,hb,h=>by
  rw [viaTo_at w v a b ha hb,Bool.or_eq_true,Bool.and_eq_true] at h
  rcases h with h | ⟨h1,h2⟩
  ·exact viaTo_lead w v (by omega) a b ha hb h
  ·exact leadW_tr (viaTo_lead w v (by omega) v b (by omega) hb h2) ha (viaTo_lead w v (by omega) a v ha (by omega) h1) (by omega)
theorem lead_closed (w:Wtg):∀ n a b,a < 4→b < 4→leadW w n a b=true→w.closed a b=true
 | 0,_,_,_,_,h=>by cases h
 | n+1,a,b,ha,hb,h=>by
  rcases leadW_step.1 h with h | ⟨k,hk,h1,h2⟩
  ·exact viaTo_up w 4 (Nat.le_refl _) a b ha hb h
  ·exact viaTo_tr w 4 (Nat.le_refl _) k hk a b ha hb (viaTo_up w 4 (Nat.le_refl _) a k ha hk h1) (lead_closed w n k b hk hb h2)
theorem closed_lead (w:Wtg) {a b:Nat} (ha:a < 4) (hb:b < 4):w.closed a b=leadW w 4 a b:=by
 rw [Bool.eq_iff_iff]
 exact ⟨viaTo_lead w 4 (Nat.le_refl _) a b ha hb,lead_closed w 4 a b ha hb⟩
theorem row_at (t:Tr) (w:Wtg) (n:Nat):∀ k x y,t.row w n k x y=if x=n∧y < k then t.hindB y n else w x y
 | 0,x,y=>by rw [if_neg (by omega)]; rfl
 | k+1,x,y=>by
  rw [Tr.row]
  unfold Wtg.set
  by_cases h:x=n∧y=k
  ·rw [if_pos h,if_pos ⟨h.1,by omega⟩,h.2]
  ·rw [if_neg h,row_at t w n k x y]
   by_cases h2:x=n∧y < k
   ·rw [if_pos h2,if_pos ⟨h2.1,by omega⟩]
   ·rw [if_neg h2,if_neg (by omega)]
theorem hands_at (t:Tr):∀ (l:List Nat) (w:Wtg) (x y:Nat),y < 4→t.hands w l x y=if x∈l then t.hindB y x else w x y
 | [],w,x,y,_=>by rw [if_neg (by simp)]; rfl
 | n :: l,w,x,y,hy=>by
  rw [Tr.hands,hands_at t l _ x y hy,row_at]
  by_cases h:x∈l
  ·rw [if_pos h,if_pos (List.mem_cons_of_mem _ h)]
  ·rw [if_neg h]
   by_cases e:x=n
   ·subst e; rw [if_pos ⟨rfl,hy⟩,if_pos List.mem_cons_self]
   ·rw [if_neg (fun h=>e h.1),if_neg (by simp [e,h])]
theorem first_at (t:Tr) (x y:Nat) (hy:y < 4):t.firstHand x y=if x∈t.queue then t.hindB y x else false:=hands_at t _ _ x y hy
theorem okTo_self (b:Int):∀ n,okTo b b n=true
 | 0=>rfl
 | n+1=>by
  rw [okTo,okTo_self b n]
  cases h:(bitOf b n == 1) with
  | false=>rfl
  | true =>
   have:bitOf b n=1:=by simpa using h
   rw [this]; rfl
theorem domB_self (a b:Int):domB a b a b=true:=by
 unfold domB
 rw [okTo_self]; simp
structure GoneW (y:Wh) (st:RS):Prop where
 txns:∀ t∈st.txns,t.who≠y
 ended:∀ e∈st.ended,e.1≠y
theorem ends_some {st:RS} {x:Wh} {b:Bool} {w:Int}:st.ends x b w=st∨(∃ t∈st.txns,t.who=x)∧∃ p,st.ends x b w={ st with places:=p,txns:=st.txns.filter (fun t=>t.who != x),recs:=st.recs.filter (fun c=>c.who != x),ended:=if 0 < w then st.ended++[(x,w)] else st.ended }:=by
 rcases txOf_cases st x with ⟨h1,_⟩ | ⟨m,t,h1,_,h3,h4⟩
 ·left; unfold RS.ends; rw [h1]
 ·rcases ends_rest st x b w with e | ⟨p,e⟩
  ·exact .inl e
  ·exact .inr ⟨⟨t,List.mem_of_getElem? h3,h4⟩,p,e⟩
theorem GoneW.ends {y:Wh} {st:RS} (h:GoneW y st) (x:Wh) (b:Bool) (w:Int):GoneW y (st.ends x b w):=by
 rcases ends_some (st:=st) (x:=x) (b:=b) (w:=w) with e | ⟨⟨t,ht,hx⟩,p,e⟩<;>rw [e]
 ·exact h
 ·have hne:x≠y:=by rw [← hx]; exact h.txns t ht
  refine ⟨fun t ht=>h.txns t (List.mem_filter.1 ht).1,fun e he=>?_⟩
  simp only at he
  split at he
  ·rcases List.mem_append.1 he with he | he
   ·exact h.ended e he
   ·simp only [List.mem_singleton] at he; subst he; exact hne
  ·exact h.ended e he
theorem does_who {st:RS} (x:Stp) {t:Tx} (ht:t∈(st.does x).1.txns):∃ u∈st.txns,u.who=t.who:=by
 rcases txOf_cases st x.who with ⟨h1,_⟩ | ⟨m,u,h1,h2,h3,h4⟩
 ·unfold RS.does at ht; rw [h1] at ht; exact ⟨t,ht,rfl⟩
 ·unfold RS.does at ht
  rw [h1] at ht
  simp only at ht
  rw [h2,Int.toNat_natCast] at ht
  obtain ⟨u',e1,e2,_⟩:=job_at (x:=x) h3
  rw [e1] at ht
  rcases List.mem_or_eq_of_mem_set ht with ht | ht
  ·exact ⟨t,ht,rfl⟩
  ·exact ⟨u,List.mem_of_getElem? h3,by rw [ht,e2]⟩
theorem does_recs (st:RS) (x:Stp):(st.does x).1.recs=st.recs∧(st.does x).1.ended=st.ended:=by
 obtain ⟨p,t,e⟩:=does_rest st x
 rw [e]; exact ⟨rfl,rfl⟩
def Settled (st:RS):Prop:=∀ c∈st.recs,c.waits=true→st.hindered c=true
theorem bestTo_none {st:RS}:∀ {k:Nat},st.bestTo k=none→∀ j c,j < k→st.recs[j]?=some c→st.free c=false
 | 0,_,j,c,h,_=>by omega
 | k+1,hb,j,c,hj,hc=>by
  rw [RS.bestTo] at hb
  cases hk:st.recs[k]? with
  | none =>
   rw [hk] at hb
   have:j < st.recs.length:=(List.getElem?_eq_some_iff.1 hc).1
   have h2:st.recs.length≤k:=by
    rcases Nat.lt_or_ge k st.recs.length with h | h
    ·rw [List.getElem?_eq_getElem h] at hk; cases hk
    ·exact h
   exact bestTo_none hb j c (by omega) hc
  | some d =>
   rw [hk] at hb
   simp only at hb
   split at hb
   ·cases hb
   ·rename_i hn
    have hb':=hb
    rcases Nat.lt_or_ge j k with h | h
    ·exact bestTo_none hb' j c h hc
    ·have e:j=k:=by omega
     subst e
     rw [hk] at hc
     obtain rfl:=Option.some.inj hc
     rw [hb'] at hn
     cases hf:st.free d with
     | false=>rfl
     | true=>rw [hf] at hn; simp [RS.better] at hn
theorem settled_of_none {st:RS} (h:st.bestTo st.recs.length=none):Settled st:=by
 intro c hc hw
 obtain ⟨j,hj⟩:=List.mem_iff_getElem?.1 hc
 have:=bestTo_none h j c (List.getElem?_eq_some_iff.1 hj).1 hj
 unfold RS.free at this
 rw [hw] at this
 simpa using this
theorem againN_settled {N:Nat}:∀ (f:Nat) (st:RS),st.Fit N→st.waitN≤f→Settled (RS.againN f st)
 | 0,st,F,hf=>by
  rcases best_cases st with h | ⟨j,c,h,hj,hfr⟩
  ·exact settled_of_none h
  ·have:=waitN_pos hj (free_waits hfr); omega
 | f+1,st,F,hf=>by
  rcases best_cases st with h | ⟨j,c,h,hj,hfr⟩
  ·rw [againN_none h]; exact settled_of_none h
  ·rw [againN_step h hj]
   exact againN_settled f _ (F.grant hj (free_waits hfr)) (by have:=grant_waitN F hj (free_waits hfr); omega)
theorem againT_settled {N:Nat} {st:RS} (F:st.Fit N):Settled st.againT:=againN_settled _ _ F (Nat.le_refl _)
theorem Settled.same {st st':RS} (h:Settled st) (e:st'.recs=st.recs):Settled st':=by
 intro c hc hw
 rw [e] at hc
 have:=h c hc hw
 unfold RS.hindered at this ⊢
 rw [e]; exact this
theorem ringsN_settled {N:Nat}:∀ (f:Nat) (st:RS) (x:Wh),st.Fit N→Settled st→Settled (RS.ringsN f st x).1
 | 0,_,_,_,h=>h
 | f+1,st,x,F,h=>by
  cases hr:st.ringTo x 4 with
  | none=>rw [ringsN_none hr]; exact h
  | some b =>
   obtain ⟨t,hb,_⟩:=ringTo_at hr
   rw [ringsN_some hr hb]
   split
   ·exact againT_settled (F.ends _ _ _)
   ·exact ringsN_settled f _ x ((F.ends _ _ _).againT) (againT_settled (F.ends _ _ _))
theorem Settled.askT {N:Nat} {st:RS} {x:Stp} (h:Settled st) (A:Asking N st x):Settled (st.askT x).1:=by
 unfold RS.askT
 split
 ·exact h
 ·rename_i hb
  have hb':x.barred=false:=by simpa using hb
  split
  ·exact h.same (does_recs st x).1
  ·split
   ·exact h
   ·rename_i hc
    split
    ·rename_i hh
     refine ringsN_settled _ _ _ (A.parked hb' hc) ?_
     intro c hcm hw
     change c∈st.recs++[(st.askR x).on] at hcm
     show (st.recs++[(st.askR x).on]).any (fun a=>hindB a c)=true
     rw [List.any_append]
     rcases List.mem_append.1 hcm with hcm | hcm
     ·have:=h c hcm hw
      unfold RS.hindered at this
      rw [this]; rfl
     ·simp only [List.mem_singleton] at hcm
      subst hcm
      unfold RS.hindered at hh
      have:st.recs.any (fun a=>hindB a (st.askR x).on)=true:=hh
      rw [this]; rfl
    ·exact againT_settled (A.doesTook hb' hc)
theorem Settled.actT {N:Nat} {st:RS} {x:Stp} (h:Settled st) (F:st.Fit N) (hp:Proper x) (hc:st.c≤32):Settled (st.actT x).1:=by
 unfold RS.actT
 split
 ·unfold RS.pollT
  split
  ·exact h
  ·split
   ·exact h.same rfl
   ·exact h
 ·rename_i h8
  split
  ·exact h
  ·split
   ·exact againT_settled (F.ends _ _ _)
   ·rename_i h7
    split
    ·exact h
    ·rename_i hb
     split
     ·unfold RS.startT
      split
      ·exact h
      ·split
       ·exact h
       ·exact h.same rfl
     ·rename_i h1
      split
      ·exact h
      ·rename_i hl
       split
       ·exact againT_settled (F.ends _ _ _)
       ·rename_i h6
        exact h.askT (actT_asking F hp hc h8 h7 h6 h1 (by
         cases hw:(st.waitRec x.who).isSome
         ·rfl
         ·exact absurd (.inl hw) hb) (txOf_some hl))
theorem Settled.doT {N:Nat} {st:RS} {x:Stp} (h:Settled st) (F:st.Fit N) (hc:st.c≤32):Settled (st.doT x).1:=by
 unfold RS.doT
 split
 ·exact h
 ·rename_i hp
  split
  ·exact h.same rfl
  ·exact (h.same (st':=st.toldT x.who) rfl).actT (F.toldT _) (proper_of (by simpa using hp)) hc
end Go.Proofs.Ytpbcplfpjcacfaa
