import Derived.Test.YtpbcplfpjcacfaaF21
import Derived.Test.YtpbcplfpjcacfaaF26
namespace Go.Proofs.Ytpbcplfpjcacfaa
open Go.RowKit
set_option maxRecDepth 100000
set_option maxHeartbeats 8000000
theorem tier_enc:tierZ=tabV (fun _=>none)++(sesC ses0 (.slice none 0 0,.slice none 0 0)++(sesC ses0 (.slice none 0 0,.slice none 0 0)++(sesC ses0 (.slice none 0 0,.slice none 0 0)++(sesC ses0 (.slice none 0 0,.slice none 0 0)++[.slice none 0 0,.slice none 0 0])))):=chk_sound _ _ (by kernel_rfl)
theorem tierZ_items (j:Nat) (hj:j < 32):tierZ[j]?=(tabV (fun _=>none))[j]?:=by
 rw [tier_enc,List.getElem?_append_left (by rw [len_tabV]; exact hj)]
theorem tierZ_ses (n j:Nat) (hn:n < 4) (hj:j < 79):tierZ[32+n*79+j]?=(sesC ses0 (.slice none 0 0,.slice none 0 0))[j]?:=by
 have hL:=len_sesC ses0 (.slice none 0 0,.slice none 0 0)
 rw [tier_enc,List.getElem?_append_right (by rw [len_tabV]; omega),len_tabV]
 generalize sesC ses0 (.slice none 0 0,.slice none 0 0)=S at *
 rcases (show n=0∨n=1∨n=2∨n=3 by omega) with rfl | rfl | rfl | rfl
 ·rw [List.getElem?_append_left (by omega)]; congr 1; omega
 ·rw [List.getElem?_append_right (by omega),List.getElem?_append_left (by omega)]; congr 1; omega
 ·rw [List.getElem?_append_right (by omega),List.getElem?_append_right (by omega),List.getElem?_append_left (by omega)]; congr 1; omega
 ·rw [List.getElem?_append_right (by omega),List.getElem?_append_right (by omega),List.getElem?_append_right (by omega),List.getElem?_append_left (by omega)]; congr 1; omega
theorem tierZ_tail (j:Nat) (hj:j < 2):tierZ[348+j]?=some (.slice none 0 0):=by
 have hL:=len_sesC ses0 (.slice none 0 0,.slice none 0 0)
 rw [tier_enc,List.getElem?_append_right (by rw [len_tabV]; omega),len_tabV]
 generalize sesC ses0 (.slice none 0 0,.slice none 0 0)=S at *
 rw [List.getElem?_append_right (by omega),List.getElem?_append_right (by omega),List.getElem?_append_right (by omega),List.getElem?_append_right (by omega),hL]
 rcases (show j=0∨j=1 by omega) with rfl | rfl<;>rfl
theorem pmem0 {w:World} {p:Nat} {k v c:Int} (h:w.heap[p]?=some (.cells ⟨storeZ k v c⟩ 138 (0,0))) :
  PMem w p (ps0 k v c) (own0 p) ⟨fun _ _=>(.slice none 0 0,.slice none 0 0),fun _=>.slice none 0 0,fun _=>.slice none 0 0⟩:=by
 have hc:∀ o,w.cell? ⟨p,o,none⟩=(storeZ k v c)[o]?:=fun o=>by rw [cell_of_row _ _ _ _ _ _ h]; simp
 refine ⟨⟨_,h,by simp [len_storeZ]⟩,?_,?_,?_,?_,?_,by simp [own0,rootTag],fun _ _ _ _=>nilRow _ _ _ _ _ _,fun _ _ _ _=>nilRow _ _ _ _ _ _,fun _ _=>nilRow _ _ _ _ _ _,fun _ _=>nilRow _ _ _ _ _ _,fun b hb=>?_⟩
 ·intro j u hj
  have hj3:j < 3:=(List.getElem?_eq_some_iff.1 hj).1
  rw [hc,Nat.zero_add]
  unfold storeZ
  rw [List.getElem?_append_left (by exact hj3)]; exact hj
 ·intro q hq j u hj
  have hj3:j < 32:=by rw [← len_tabV]; exact (List.getElem?_eq_some_iff.1 hj).1
  rw [hc]
  unfold tO
  rw [storeZ_tier k v c q j hq (by omega),tierZ_items j hj3]; exact hj
 ·intro q hq n hn j u hj
  have hj3:j < 79:=by rw [← len_sesC]; exact (List.getElem?_eq_some_iff.1 hj).1
  rw [hc]
  unfold sO
  rw [show 3+q*350+32+n*79+j=3+q*350+(32+n*79+j) by omega,storeZ_tier k v c q _ hq (by omega),tierZ_ses n j hn hj3]; exact hj
 ·intro q hq
  rw [hc]
  unfold tO
  rw [storeZ_tier k v c q _ hq (by omega)]
  exact tierZ_tail 0 (by omega)
 ·intro q hq
  rw [hc]
  unfold tO
  rw [storeZ_tier k v c q _ hq (by omega)]
  exact tierZ_tail 1 (by omega)
 ·have:=own0_at hb
  subst this
  exact (Array.getElem?_eq_some_iff.1 h).1
theorem fit0 {k v c:Int} (h:c≤32):(ps0 k v c).Fit:=by
 refine ⟨fun q _=>⟨List.nodup_nil,fun n hn=>(by cases hn),List.nodup_nil,fun n hn=>(by cases hn),fun n hn=>(by cases hn),?_⟩,h⟩
 rw [lockTo4]
 show (0:Nat)+(0+0+0+0)≤32
 omega
theorem PS.Fit.finishT {s:PS} (F:s.Fit) {q:Nat} (n:Nat) (hq:q < 32):(s.finishT q n).Fit:=(F.setT ((F.tr q hq).endT n)).settleT
theorem PS.Fit.ringsN {q n:Nat} (hq:q < 32):∀ (k:Nat) (s:PS),s.Fit→(PS.ringsN q n k s).Fit
 | 0,_,F=>F
 | k+1,s,F=>by
  cases hy:(s.t q).youngest n with
  | none=>rw [ringsN_no hy]; exact F
  | some y=>rw [ringsN_yes hy]; exact PS.Fit.ringsN hq k _ (F.setT ((F.tr q hq).forceT y 2)).settleT
theorem PS.Fit.ringsT {s:PS} (F:s.Fit) {q:Nat} (n:Nat) (hq:q < 32):(s.ringsT q n).1.Fit:=by
 unfold PS.ringsT; split
 ·exact PS.Fit.ringsN hq 4 s F
 ·exact (PS.Fit.ringsN hq 4 s F).setS hq rfl rfl
theorem PS.Fit.askT {s:PS} (F:s.Fit) {q n:Nat} {x:Stp} (hq:q < 32) (hn:n < 4) (hx:ReqOk q n x) (hnq:hasB (s.t q).queue n=false):(s.askT q n x).1.Fit:=by
 unfold PS.askT; split
 ·exact F
 ·rename_i hm
  have hm':x.may=true:=by simpa using hm
  split
  ·exact F.grantT hq x
  ·split
   ·exact F
   ·rename_i hfull
    have FJ:(s.setT q ((s.t q).joinT n x)).Fit:=F.setT ((F.tr q hq).joinT hn hnq (by have:=F.c; omega) ⟨hx,may_wr hx.who hm'⟩)
    split
    ·exact FJ.ringsT n hq
    ·dsimp only
     exact (FJ.admitT hq (by rw [setT_t]; exact joinT_mem _ _ _)).settleT
theorem PS.Fit.beginT {s:PS} (F:s.Fit) {q n:Nat} (hq:q < 32) (hn:n < 4):(s.beginT q n).1.Fit:=by
 unfold PS.beginT; split
 ·exact F
 ·rename_i hb
  split
  ·exact F
  ·refine F.setT ⟨?_,?_,(F.tr q hq).queN,(F.tr q hq).queL,(F.tr q hq).req,(F.tr q hq).lock⟩
   ·show ((s.t q).begun++[n]).Nodup
    rw [List.nodup_append]
    refine ⟨(F.tr q hq).begN,by simp,fun a ha b hb' e=>?_⟩
    simp at hb'; subst hb'; subst e
    exact hb (by unfold hasB; rw [List.any_eq_true]; exact ⟨a,ha,by simp⟩)
   ·intro m hm
    rcases List.mem_append.1 hm with h | h
    ·exact (F.tr q hq).begL m h
    ·simp at h; omega
theorem PS.Fit.actT {s:PS} (F:s.Fit) {q n:Nat} {x:Stp} (hq:q < 32) (hn:n < 4) (hx:x.op=2∨x.op=3∨x.op=4∨x.op=5→ReqOk q n x) (hop:1≤x.op∧x.op≤8):(s.actT q n x).1.Fit:=by
 unfold PS.actT
 split
 ·exact F.setS hq rfl rfl
 ·split
  ·unfold PS.pollT; split
   ·exact F
   ·split
    ·exact F.setS hq rfl rfl
    ·exact F
  ·split
   ·unfold PS.abortT; split
    ·dsimp only
     exact F.finishT n hq
    ·exact F
   ·split
    ·exact F
    ·rename_i hbz
     split
     ·exact F.beginT hq hn
     ·split
      ·exact F
      ·split
       ·unfold PS.commitT
        dsimp only
        have h:(s.setI q (((s.t q).ses n).wr.over (s.t q).items)).Fit:=F.setT ((F.tr q hq).same rfl rfl (fun _ _=>rfl) (fun _ _=>rfl))
        exact h.finishT n hq
       ·refine F.askT hq hn (hx (by omega)) ?_
        unfold Tr.busyB at hbz
        simp at hbz; exact hbz.2
theorem proper_q {x:Stp} (h:properB x=true):plOf x.who.lab < 32∧numOf x.who < 4∧x.who=whoOf (plOf x.who.lab) (numOf x.who):=by
 have hPr:=proper_of h
 have hlab:labB x.who.1 x.who.2.1=true:=by
  unfold properB at h
  simp only [Bool.and_eq_true] at h
  exact h.1.1
 have h1:=hPr.who.2.1
 have h2:=hPr.who.2.2
 exact ⟨plOf_lt hlab,by unfold numOf; omega,who_is hlab h1 rfl rfl⟩
theorem req_of {x:Stp} {q n:Nat} (h:properB x=true) (hw:x.who=whoOf q n):x.op=2∨x.op=3∨x.op=4∨x.op=5→ReqOk q n x:=fun ho=>by
 obtain ⟨h1,h2⟩:=(proper_of h).asks ho
 exact ⟨hw,⟨h1.key.1,h1.key.2⟩,by unfold labB; exact decide_eq_true h2⟩
theorem PS.Fit.doT {s:PS} (F:s.Fit) (x:Stp):(s.doT x).1.Fit:=by
 unfold PS.doT; split
 ·exact F
 ·rename_i h
  have h':properB x=true:=by simpa using h
  obtain ⟨h1,h2,h3⟩:=proper_q h'
  exact F.actT h1 h2 (req_of h' h3) (proper_of h').op
def thePgm:Pgm where
 S:=PS
 Rep:=PRep
 act:=PS.doT
 look:=fun s l=>listTo (s.t (plOf l)).items 0 15 16
 start:=ps0
 Ok:=fun _ s=>s.Fit
 old:=fun ⟨_,m⟩=>m.old
 frame:=fun ⟨G,m⟩ h1 h2=>⟨G,m.frame h1 h2⟩
 okStart:=fun h=>fit0 (mayB_t h).2.2.2.2.2
 okAct:=fun x F=>F.doT x
 okMono:=fun F=>F
 newYes:=fun k v c w h=>(new_yes k v c w h).mono fun e w' ⟨h1,h2⟩=>by
  subst h2
  refine ⟨w.heap.size+1,own0 (w.heap.size+1),h1,below2r,fun b hb=>?_,_,pmem0 ?_⟩
  ·have:=own0_at hb; omega
  ·have:=heap_alloc_new (w.alloc (.cells #[.int .i64 k,.int .i64 v,.int .i64 c] 23)) (.cells ⟨storeZ k v c⟩ 138)
   rw [World.size_alloc] at this
   exact this
 newNo:=new_no
 lookYes:=fun l c ⟨G,m⟩ _ h=>look_yes _ l c _ _ h (m.items _ (plOf_lt (a:=(l,c)) h)) m.lt
 lookNo:=fun l c _ _ h=>look_no _ l c _ h
 doAny:=fun x ⟨_,m⟩ F _=>do_is m F
def PS.ringsK (q n k:Nat) (s:PS):PS × Ans :=
 if (((PS.ringsN q n k s).t q).ses n).ended=0 then (PS.ringsN q n k s,⟨1,0,[]⟩)
 else ((PS.ringsN q n k s).untold q n,⟨2,(((PS.ringsN q n k s).t q).ses n).ended,[]⟩)
theorem ringsN_quiet {q n:Nat} {s:PS} (h:(s.t q).youngest n=none):∀ k,PS.ringsN q n k s=s
 | 0=>rfl
 | k+1=>by rw [PS.ringsN,h]
theorem ringsN_go {q n y:Nat} {s:PS} (h:(s.t q).youngest n=some y) (k:Nat):PS.ringsN q n (k+1) s=PS.ringsN q n k (s.setT q ((s.t q).forceT y 2)).settleT:=by
 rw [PS.ringsN,h]
theorem ringsK_zero {q n k:Nat} {s:PS} (h:PS.ringsN q n k s=s) (hz:((s.t q).ses n).ended=0):PS.ringsK q n k s=(s,⟨1,0,[]⟩):=by
 unfold PS.ringsK; rw [h,if_pos hz]
theorem ringsK_two {q n k:Nat} {s s':PS} {w:Int} (h:PS.ringsN q n k s=s') (hz:((s'.t q).ses n).ended=w) (hw:w≠0):PS.ringsK q n k s=(s'.untold q n,⟨2,w,[]⟩):=by
 unfold PS.ringsK; rw [h,hz,if_neg hw]
theorem ringsK_cg {q n k k':Nat} {s s':PS} (h:PS.ringsN q n k s=PS.ringsN q n k' s'):PS.ringsK q n k s=PS.ringsK q n k' s':=by
 unfold PS.ringsK; rw [h]
theorem ends_two {st:RS} {x:Wh} {t:Tx} (ht:st.txOf x=some t):Two st.ended (x,2) (st.ends x true 0) (st.ends x true 2):=by
 refine ⟨⟨[],?_,?_,fun p hp=>by cases hp⟩,fun u hu=>?_⟩
 ·unfold RS.ends; rw [ht]; simp
 ·unfold RS.ends RS.withE; rw [ht]; simp
 ·rw [(ends_parts ht true 0).1] at hu
  have:=(List.mem_filter.1 hu).2
  simpa using this
theorem sim_rings {N q n:Nat} (hq:q < 32) (hn:n < 4):∀ (k:Nat) (st:RS),st.Fit N→st.Inv→st.toPS.Fit→Settled st→Here (whoOf q n) st→(st.begOf q).length≤k →
  (st.ringsT (whoOf q n)).1.toPS=(PS.ringsK q n k st.toPS).1∧(st.ringsT (whoOf q n)).2=(PS.ringsK q n k st.toPS).2∧(st.ringsT (whoOf q n)).1.Inv:=by
 intro k
 induction k with
 | zero =>
  intro st F I PF S H hk
  rcases sim_young F I (q:=q) hn with ⟨h1,h2⟩ | ⟨y,b,t,_,_,hy,_⟩
  ·rw [ringsT_none h2,ringsK_zero (s:=st.toPS) (k:=0) rfl (told_none F H).1]
   exact ⟨rfl,rfl,I⟩
  ·have:=List.length_pos_of_mem hy
   omega
 | succ k ih =>
  intro st F I PF S H hk
  rcases sim_young F I (q:=q) hn with ⟨h1,h2⟩ | ⟨y,b,t,hyo,hy4,hy,hr,hb,hw⟩
  ·have h1':(st.toPS.t q).youngest n=none:=h1
   have e:=ringsN_quiet (s:=st.toPS) h1' (k+1)
   rw [ringsT_none h2,ringsK_zero e (told_none F H).1]
   exact ⟨rfl,rfl,I⟩
  ·have htm:=List.mem_of_getElem? hb
   have htx:st.txOf t.who=some t:=txOf_at F.uniq hb rfl
   have hne0:PS.ringsN q n (k+1) st.toPS=PS.ringsN q n k (st.toPS.setT q ((st.toPS.t q).forceT y 2)).settleT:=by
    have hyo':(st.toPS.t q).youngest n=some y:=hyo
    exact ringsN_go hyo' k
   have e1:(st.ends t.who true 2).toPS=st.toPS.setT q ((st.toPS.t q).forceT y 2):=sim_force F I hw htx 2 (by decide)
   have F1:=F.ends t.who true 2
   have I1:=I.ends t.who true 2
   have PF1:(st.ends t.who true 2).toPS.Fit:=by rw [e1]; exact PF.setT ((PF.tr q hq).forceT y 2)
   obtain ⟨e2,I2⟩:=sim_again F1 I1 PF1
   have PF2:(st.ends t.who true 2).againT.toPS.Fit:=by rw [e2]; exact PF1.settleT
   rw [← e1,← e2] at hne0
   by_cases hx:t.who=whoOf q n
   ·have htx':st.txOf (whoOf q n)=some t:=by rw [← hx]; exact htx
    rw [ringsT_self hr hb hx]
    have hT:=(ends_two htx').againT
    obtain ⟨g1,g2⟩:=hT.told (told_none F H).2
    rw [hx] at hne0 e1 e2 F1 I1 PF1 PF2 I2 ⊢
    have hyn:((st.ends (whoOf q n) true 2).againT.toPS.t q).youngest n=none:=by
     rcases sim_young F1.againT I2 (q:=q) hn with ⟨h1,_⟩ | ⟨y',b',t',_,_,_,hr',hb',_⟩
     ·exact h1
     ·exfalso
      have hbest:=ring_best F1.againT (whoOf q n) 4
      unfold RingBest at hbest
      rw [hr'] at hbest
      obtain ⟨t2,m,_,h2,_,h4,_⟩:=hbest
      have hgone:¬ Here (whoOf q n) (st.ends (whoOf q n) true 2).againT:=fun ⟨u,hu,e⟩=>by
       obtain ⟨⟨C,_,h2,_⟩,h4⟩:=hT
       rw [h2] at hu
       exact h4 u hu e
      have hnw:(st.ends (whoOf q n) true 2).againT.waitRec (whoOf q n)=none:=by
       cases hwr:(st.ends (whoOf q n) true 2).againT.waitRec (whoOf q n) with
       | none=>rfl
       | some c =>
        obtain ⟨c1,_,c3⟩:=rec_some hwr
        obtain ⟨u,hu,e⟩:=F1.againT.backed c c1
        exact absurd ⟨u,hu,e.trans c3⟩ hgone
      have hnf:∀ z,(st.ends (whoOf q n) true 2).againT.waitsFor (whoOf q n) z=false:=fun z=>by unfold RS.waitsFor; rw [hnw]
      have hnl:∀ z,(st.ends (whoOf q n) true 2).againT.leads 4 (whoOf q n) z=false:=fun z=>by
       rw [leads_succ,hnf,Bool.false_or]
       rw [List.any_eq_false]
       intro j _
       unfold ledP
       rw [hnf]; simp
      unfold RS.inRing at h4
      rw [hnl] at h4
      simp at h4
    have e3:=ringsN_quiet hyn k
    rw [ringsK_two (w:=2) (hne0.trans e3) g2 (by decide)]
    refine ⟨?_,rfl,?_⟩
    ·show _=(st.ends (whoOf q n) true 2).againT.toPS.untold q n
     rw [← sim_toldT F1.againT rfl]
     exact congrArg RS.toPS g1.symm
    ·have e0:=sim_end F I rfl htx'
     exact (sim_again (F.ends _ _ _) (I.ends _ _ _) (by rw [e0]; exact PF.setT ((PF.tr q hq).endT n))).2
   ·rw [ringsT_other hr hb hx]
    have hx':y≠n:=fun e=>hx (by rw [hw,e])
    have hH1:Here (whoOf q n) (st.ends t.who true 2):=by
     obtain ⟨u,hu,e⟩:=H
     refine ⟨u,?_,e⟩
     rw [(ends_parts htx true 2).1]
     exact List.mem_filter.2 ⟨hu,by rw [e]; simpa using Ne.symm hx⟩
    have hfree:∀ d∈(st.ends t.who true 2).recs,(st.ends t.who true 2).free d=true→plOf (whoOf q n).lab≤plOf d.at_:=fun d hd hf=>by
     obtain ⟨dw,dh⟩:=free_two hf
     rw [(ends_parts htx true 2).2.1] at hd
     obtain ⟨hd1,hd2⟩:=List.mem_filter.1 hd
     have hS:=S d hd1 dw
     unfold RS.hindered at hS dh
     obtain ⟨a,ha,hah⟩:=List.any_eq_true.1 hS
     rw [(ends_parts htx true 2).2.1] at dh
     have haw:a.who=t.who:=Classical.byContradiction fun hne=>by
      have:=List.any_eq_false.1 dh a (List.mem_filter.2 ⟨ha,by simpa using hne⟩)
      exact this hah
     have hlab:a.who.lab=d.at_:=by
      unfold hindB at hah
      split at hah
      ·cases hah
      ·rename_i h
       simp only [Bool.or_eq_true,Bool.not_eq_true',not_or,Bool.not_eq_false] at h
       have:=of_decide_eq_true h.1.2
       exact Prod.ext this.1 this.2
     rw [← hlab,haw,hw]
     exact Nat.le_refl _
    have hH2:Here (whoOf q n) (st.ends t.who true 2).againT:=again_here _ _ F1 I1 hfree hH1
    have hlen:((st.ends t.who true 2).againT.begOf q).length≤k:=by
     have hsub:InW ((st.ends t.who true 2).txns.map (·.who)) (st.ends t.who true 2).againT:=by
      refine (closed_in _ { who:=whoOf q n,op:=0,at_:=(0,0),key:=0,to_:=0,value:=0 } ?_).againT _ (fun u hu=>List.mem_map.2 ⟨u,hu,rfl⟩)
      obtain ⟨u,hu,e⟩:=hH1
      exact List.mem_map.2 ⟨u,hu,e⟩
     have hin:∀ m∈(st.ends t.who true 2).againT.begOf q,m∈lsOff (st.begOf q) y:=fun m hm=>by
      have hb2:m∈(st.ends t.who true 2).begOf q:=by
       rw [begOf_whos] at hm ⊢
       obtain ⟨z,hz,hzm⟩:=List.mem_map.1 hm
       obtain ⟨hz1,hz2⟩:=List.mem_filter.1 hz
       obtain ⟨u,hu,hue⟩:=List.mem_map.1 hz1
       exact List.mem_map.2 ⟨z,List.mem_filter.2 ⟨by rw [← hue]; exact hsub u hu,hz2⟩,hzm⟩
      have:(st.ends t.who true 2).begOf q=lsOff (st.begOf q) y:=by
       have:=congrArg (fun s=>(PS.t s q).begun) e1
       simp only [setT_t] at this
       exact this
      rw [← this]; exact hb2
     have hnd:((st.ends t.who true 2).againT.begOf q).Nodup:=(PF2.tr q hq).begN
     have h1:=nodup_sub hnd hin
     have h2:=lsOff_one (PF.tr q hq).begN hy
     have h3:(lsOff (st.toPS.t q).begun y).length=(lsOff (st.begOf q) y).length:=rfl
     have h4:(st.toPS.t q).begun.length=(st.begOf q).length:=rfl
     omega
    obtain ⟨r1,r2,r3⟩:=ih _ F1.againT I2 PF2 (againT_settled F1) hH2 hlen
    rw [ringsK_cg hne0]
    exact ⟨r1,r2,r3⟩
theorem may_barred (x:Stp):x.may=!x.barred:=by
 unfold Stp.may Stp.barred Stp.wr
 by_cases h:x.op=4∨x.op=5
 ·rw [if_pos h,decide_eq_true h]
  cases hs:sameL x.at_.1 x.at_.2 x.who.1 x.who.2.1 with
  | false=>simp
  | true =>
   simp only [sameL,decide_eq_true_eq] at hs
   rw [hs.1,hs.2,domB_self]
   rfl
 ·rw [if_neg h,decide_eq_false h]
  cases domB x.who.1 x.who.2.1 x.at_.1 x.at_.2<;>rfl
theorem sim_cov (st:RS) (x:Stp) {q n:Nat} (hx:x.who=whoOf q n):st.recs.any (covP x.who (st.askR x))=((st.toPS.t q).ses n).covB (lkOf x):=by
 rw [toPS_ses,← hx]
 unfold Ses.covB
 show _=(st.locksOf x.who).any _
 unfold RS.locksOf
 rw [List.any_map,List.any_filter]
 congr 1
 funext c
 unfold covP coverB
 rw [sameW_eq]
 unfold Lk.covB
 simp only [Function.comp]
 show _=((c.who == x.who && !c.waits) && (sameL c.at_.1 c.at_.2 x.at_.1 x.at_.2 && (decide (c.lo≤x.key) && (decide (x.hi≤c.hi) && (c.write || !x.wr)))))
 show ((c.who == x.who) && (!c.waits && sameL c.at_.1 c.at_.2 x.at_.1 x.at_.2 && decide (c.lo≤x.key) && decide (x.hi≤c.hi) && (c.write || !x.wr)))=_
 simp only [Bool.and_assoc]
theorem count_four {q:Nat}:∀ {l:List Rc},(∀ c∈l,c.who.ok)→(l.filter (fun c=>c.who.lab == labOf q)).length=(l.filter (fun c=>c.waits && c.who.lab == labOf q)).length+((l.filter (fun c=>c.who == whoOf q 0 && !c.waits)).length+(l.filter (fun c=>c.who == whoOf q 1 && !c.waits)).length+(l.filter (fun c=>c.who == whoOf q 2 && !c.waits)).length+(l.filter (fun c=>c.who == whoOf q 3 && !c.waits)).length)
 | [],_=>rfl
 | c :: l,h=>by
  have ih:=count_four (q:=q) (l:=l) (fun d hd=>h d (List.mem_cons_of_mem _ hd))
  obtain ⟨q',m,hq',hm,e⟩:=ok_who (h c List.mem_cons_self)
  have hlab:(c.who.lab == labOf q)=decide (q'=q):=by
   rw [e,whoOf_lab]
   by_cases hqq:q'=q
   ·rw [hqq]; simp
   ·rw [decide_eq_false hqq]; simpa using fun h=>hqq (labOf_inj h)
  have hw:∀ i,(c.who == whoOf q i)=decide (q'=q∧m=i):=fun i=>by
   rw [e]
   by_cases hqq:q'=q∧m=i
   ·rw [hqq.1,hqq.2]; simp
   ·rw [decide_eq_false hqq]; simpa using fun h=>hqq (whoOf_inj h)
  simp only [List.filter_cons,hlab,hw]
  by_cases hqq:q'=q
  ·subst hqq
   cases hwt:c.waits
   ·rcases (show m=0∨m=1∨m=2∨m=3 by omega) with rfl | rfl | rfl | rfl<;>simp<;>omega
   ·simp; omega
  ·simp [hqq]; exact ih
theorem sim_count {N:Nat} {st:RS} (F:st.Fit N) {x:Wh} {q n:Nat} (hx:x=whoOf q n):labN x st.recs=(st.toPS.t q).lockTo 4:=by
 rw [lockTo4]
 unfold labN
 have e:(fun c:Rc=>sameL c.who.1 c.who.2.1 x.1 x.2.1)=(fun c:Rc=>c.who.lab == labOf q):=by
  funext c
  rw [hx]
  exact sameL_eq c.who.lab (labOf q)
 rw [e,count_four (q:=q) (fun c hc=>F.recW hc)]
 have hl:∀ i,(((st.toPS.t q).ses i).locks).length=(st.recs.filter (fun c=>c.who == whoOf q i && !c.waits)).length:=fun i=>by
  show (st.locksOf (whoOf q i)).length=_
  unfold RS.locksOf
  rw [List.length_map]
 have hq:(st.toPS.t q).queue.length=(st.recs.filter (fun c=>c.waits && c.who.lab == labOf q)).length:=by
  show (st.queOf q).length=_
  unfold RS.queOf
  rw [List.length_map]
 rw [hl,hl,hl,hl,hq]
theorem setT_back (s:PS) (q:Nat):s.setT q (s.t q)=s:=by
 unfold PS.setT
 have:upd s.t q (s.t q)=s.t:=by
  funext m
  unfold upd
  by_cases e:m=q
  ·rw [if_pos e,e]
  ·rw [if_neg e]
 rw [this]
theorem hind_self (c:Rc):hindB c c=false:=by
 unfold hindB
 rw [sameW_eq]
 simp
theorem join_leave {t:Tr} {n:Nat} {x:Stp} (hn:¬ n∈t.queue) (hr:(t.ses n).req=stp0):(t.joinT n x).leaveT n=t:=by
 have hq:lsOff (t.queue++[n]) n=t.queue:=by
  unfold lsOff
  rw [List.filter_append]
  have h1:t.queue.filter (fun m=>!(m == n))=t.queue:=List.filter_eq_self.2 (fun m hm=>by simpa using fun e=>hn (by rw [← e]; exact hm))
  rw [h1]; simp
 have hs:upd (upd t.ses n { t.ses n with req:=x }) n { upd t.ses n { t.ses n with req:=x } n with req:=stp0 }=t.ses:=by
  funext m
  unfold upd
  by_cases e:m=n
  ·subst e
   simp only [if_true]
   rw [← hr]
  ·simp [e]
 unfold Tr.leaveT Tr.joinT
 simp only
 rw [hq,hs]
theorem ask_inv {N:Nat} {st:RS} {x:Stp} (A:Asking N st x) (hp:properB x=true) (hb:x.barred=false):plOf x.at_≤plOf x.who.lab∧(x.wr=true→x.at_=x.who.lab):=by
 have hd:domB x.who.1 x.who.2.1 x.at_.1 x.at_.2=true:=by
  unfold Stp.barred at hb
  simp only [Bool.or_eq_false_iff,Bool.not_eq_false'] at hb
  exact hb.1
 exact ⟨dom_place (labB_mk (proper_of hp).who.1) (labB_mk A.at_) hd,fun hw=>(askR_asks (st:=st) A.good hb).2.2.2.2.2.2 hw⟩
theorem val_ok {x:Stp} (hp:properB x=true) (h4:x.op=4):0≤x.value:=by
 unfold properB at hp
 simp only [Bool.and_eq_true,decide_eq_true_eq] at hp
 have ha:asksB x.op=true:=by unfold asksB; simp [h4]
 have h6:=hp.2
 rw [ha,decide_eq_true h4] at h6
 simp only [Bool.not_true,Bool.false_or,Bool.and_eq_true,decide_eq_true_eq] at h6
 exact h6.2.1
theorem sim_ask {N:Nat} {st:RS} {x:Stp} (A:Asking N st x) (I:st.Inv) (PF:st.toPS.Fit) (S:Settled st) (hp:properB x=true) {q n:Nat} (hx:x.who=whoOf q n) (hq:q < 32) (hn:n < 4) :
  (st.askT x).1.toPS=(st.toPS.askT q n x).1∧(st.askT x).2=(st.toPS.askT q n x).2∧(st.askT x).1.Inv:=by
 have F:=A.fit
 obtain ⟨t,htm,htw⟩:=A.live
 obtain ⟨m,hm⟩:=List.mem_iff_getElem?.1 htm
 have htx:st.txOf x.who=some t:=txOf_at F.uniq hm htw
 have hnq:¬ n∈(st.toPS.t q).queue:=fun h=>by
  obtain ⟨c,h1,h2,h3⟩:=(wait_que F).1 h
  rw [A.nowait c h1 (by rw [h3,hx])] at h2; cases h2
 have hhas:hasB (st.toPS.t q).queue n=false:=by
  unfold hasB
  rw [List.any_eq_false]
  intro m hm
  simpa using fun e=>hnq (by rw [← e]; exact hm)
 have hF:¬ (false=true):=by simp
 have hT:true=true:=rfl
 unfold RS.askT PS.askT
 rw [may_barred,sim_cov st x hx,sim_count F hx]
 cases hb:x.barred with
 | true=>exact ⟨rfl,rfl,I⟩
 | false =>
  rw [if_neg hF,if_neg (show ¬ ((!false)=false) by simp)]
  obtain ⟨hlow,hwr⟩:=ask_inv A hp hb
  have hwr':x.op=4∨x.op=5→x.at_=x.who.lab:=fun h=>hwr (by unfold Stp.wr; exact decide_eq_true h)
  cases hcov:((st.toPS.t q).ses n).covB (lkOf x) with
  | true =>
   rw [if_pos hT,if_pos hT]
   have hc':=hcov
   rw [← sim_cov st x hx,List.any_eq_true] at hc'
   obtain ⟨c,hcm,hcp⟩:=hc'
   unfold covP coverB at hcp
   rw [sameW_eq,show sameL c.at_.1 c.at_.2 (st.askR x).at_.1 (st.askR x).at_.2=(c.at_ == x.at_) from sameL_eq _ _] at hcp
   simp only [Bool.and_eq_true,beq_iff_eq,Bool.not_eq_true',Bool.or_eq_true,decide_eq_true_eq] at hcp
   obtain ⟨h1,⟨⟨⟨h2,h3⟩,h4⟩,h5⟩,h6⟩:=hcp
   have R:Ready st x q n t:={
    who:=hx
    hq:=hq
    tx:=htx
    good:=A.good
    lab:=labB_mk A.at_
    wr:=hwr'
    holds:=fun h=>⟨c,hcm,h1,h2,by rw [h3,h],h4,h5,fun hw=>by
     rcases h6 with h6 | h6
     ·exact h6
     ·have:x.wr=true:=hw
      have h6':x.wr=false:=h6
      rw [this] at h6'; cases h6'⟩
    val:=val_ok hp }
   obtain ⟨d1,d2⟩:=sim_does F I R
   exact ⟨d1,d2,I.does F R⟩
  | false =>
   rw [if_neg hF,if_neg hF,show st.toPS.c=st.c from rfl]
   by_cases hfull:st.c≤((st.toPS.t q).lockTo 4:Int)
   ·rw [if_pos hfull,if_pos hfull]; exact ⟨rfl,rfl,I⟩
   ·rw [if_neg hfull,if_neg hfull]
    have hfull':¬ st.c≤(labN x.who st.recs:Int):=by rw [sim_count F hx]; exact hfull
    have FP:=A.parked hb hfull'
    have eP:=sim_park hx htx
    have IP:((st.addRec (st.askR x).on).setStep x).Inv:=by
     have h1:(st.addRec (st.askR x).on).Inv:=I.addRec ⟨hlow,hwr⟩ A.nowait rfl (fun h=>by cases h)
     exact h1.mapTx (x:=x.who) (f:=fun t=>{ t with step:=x }) (fun _=>rfl) (fun _=>rfl) (fun _=>rfl) (fun _ _=>val_ok hp)
    have hcP:(st.askR x).on∈((st.addRec (st.askR x).on).setStep x).recs:=List.mem_append.2 (.inr (List.mem_singleton.2 rfl))
    have hhd:((st.addRec (st.askR x).on).setStep x).hindered (st.askR x).on=st.hindered (st.askR x):=by
     show (st.recs++[(st.askR x).on]).any (fun a=>hindB a (st.askR x).on)=_
     rw [List.any_append]
     have:[(st.askR x).on].any (fun a=>hindB a (st.askR x).on)=false:=by
      rw [List.any_cons,hind_self]; rfl
     rw [this,Bool.or_false]
     rfl
    have hH:=sim_hind FP IP hcP rfl (q:=q) (n:=n) hx hq
    rw [hhd,eP] at hH
    have hH':(st.toPS.setT q ((st.toPS.t q).joinT n x)).hindB q n=st.hindered (st.askR x):=hH
    rw [hH']
    cases hhi:st.hindered (st.askR x) with
    | true =>
     rw [if_pos hT,if_pos hT]
     have PFJ:((st.addRec (st.askR x).on).setStep x).toPS.Fit:=by
      rw [eP]
      exact PF.setT ((PF.tr q hq).joinT hn hhas (by have:=PF.c; have h2:st.toPS.c=st.c:=rfl; have h3:st.toPS.t q=st.trOf q:=rfl; rw [h3] at hfull; show (st.trOf q).lockTo 4+1≤32; omega) ⟨req_of hp hx (by have:=A.good.op; exact this),may_wr hx (by rw [may_barred,hb]; rfl)⟩)
     have SP:Settled ((st.addRec (st.askR x).on).setStep x):=by
      intro c hcm hw
      change c∈st.recs++[(st.askR x).on] at hcm
      show (st.recs++[(st.askR x).on]).any (fun a=>hindB a c)=true
      rw [List.any_append]
      rcases List.mem_append.1 hcm with hcm | hcm
      ·have:=S c hcm hw
       unfold RS.hindered at this
       rw [this]; rfl
      ·simp only [List.mem_singleton] at hcm
       subst hcm
       unfold RS.hindered at hhi
       have:st.recs.any (fun a=>hindB a (st.askR x).on)=true:=hhi
       rw [this]; rfl
     have HP:Here (whoOf q n) ((st.addRec (st.askR x).on).setStep x):=by
      refine ⟨_,List.mem_map.2 ⟨t,htm,rfl⟩,?_⟩
      rw [← hx]
      split<;>exact htw
     have hlen:(((st.addRec (st.askR x).on).setStep x).begOf q).length≤4:=four_len (PFJ.tr q hq).begN (PFJ.tr q hq).begL
     have hR:=sim_rings hq hn 4 _ FP IP PFJ SP HP hlen
     unfold RS.parked
     rw [hx]
     rw [eP] at hR
     exact hR
    | false =>
     rw [if_neg hF,if_neg hF]
     have IA:(st.addRec (st.askR x)).Inv:=I.addRec ⟨hlow,hwr⟩ A.nowait rfl (fun _ d hd=>by
      unfold RS.hindered at hhi
      have:=List.any_eq_false.1 hhi d hd
      simpa using this)
     have FA:=A.add hfull'
     have FC:=A.cleared hfull'
     have IC:=IA.clearT (st.askR x)
     have eC:((st.addRec (st.askR x)).clearT (st.askR x)).toPS=(st.toPS.setT q ((st.toPS.t q).joinT n x)).lockT q n x:=by
      rw [sim_clear FA IA,sim_take hx]
      unfold PS.lockT
      have hreq:((st.toPS.t q).ses n).req=stp0:=by
       rw [toPS_ses,← hx]
       show st.reqOf x.who=stp0
       unfold RS.reqOf
       rw [waitB_rec]
       cases hwr2:st.waitRec x.who with
       | none=>rfl
       | some c =>
        obtain ⟨c1,c2,c3⟩:=rec_some hwr2
        rw [A.nowait c c1 c3] at c2; cases c2
      rw [setT_t,setT_setT,join_leave hnq hreq,setT_back]
      rfl
     have htC:=A.tookL hb htm htw
     obtain ⟨m',hm'⟩:=List.mem_iff_getElem?.1 htC
     have hown:st.askR x∈((st.addRec (st.askR x)).clearT (st.askR x)).recs:=by
      refine clearT_recs (List.mem_append.2 (.inr (List.mem_singleton.2 rfl))) (fun hw z _ hz e=>?_)
      have hl:x.at_=x.who.lab:=hwr hw
      exact clr_own hz (by rw [e]; exact hl.symm)
     have R:Ready ((st.addRec (st.askR x)).clearT (st.askR x)) x q n t:={
      who:=hx
      hq:=hq
      tx:=txOf_at FC.uniq hm' htw
      good:=A.good
      lab:=labB_mk A.at_
      wr:=hwr'
      holds:=fun h=>⟨st.askR x,hown,rfl,rfl,h,Int.le_refl _,Int.le_refl _,fun h=>h⟩
      val:=val_ok hp }
     obtain ⟨d1,d2⟩:=sim_does FC IC R
     have hadm:(st.toPS.setT q ((st.toPS.t q).joinT n x)).admitT q n=((st.addRec (st.askR x)).clearT (st.askR x)).toPS.grantT q n x:=by
      unfold PS.admitT
      rw [setT_t,joinT_ses,eC]
     have PFD:(((st.addRec (st.askR x)).clearT (st.askR x)).does x).1.toPS.Fit:=by
      rw [d1,← hadm]
      exact (PF.setT ((PF.tr q hq).joinT hn hhas (by have:=PF.c; have h2:st.toPS.c=st.c:=rfl; have h3:st.toPS.t q=st.trOf q:=rfl; rw [h3] at hfull; show (st.trOf q).lockTo 4+1≤32; omega) ⟨req_of hp hx A.good.op,may_wr hx (by rw [may_barred,hb]; rfl)⟩)).admitT hq (by rw [setT_t]; exact joinT_mem _ _ _)
     obtain ⟨g1,g2⟩:=sim_again (A.doesTook hb hfull') (IC.does FC R) PFD
     unfold RS.took
     refine ⟨?_,?_,g2⟩
     ·show (((st.addRec (st.askR x)).clearT (st.askR x)).does x).1.againT.toPS=_
      rw [g1,d1,hadm]
     ·show (((st.addRec (st.askR x)).clearT (st.askR x)).does x).2=_
      rw [d2,hadm]
end Go.Proofs.Ytpbcplfpjcacfaa
namespace Go.Proofs.Ytpbcplfpjcacfaa
open Go.RowKit
attribute [local go_sem ↓] Go.wp_at_zero Go.wp_at_succ
set_option maxRecDepth 100000
set_option maxHeartbeats 8000000
theorem Fit0 (k v c:Int):(st0 k v c).Fit 0:=by
 refine { uniq:=?_,who:=?_,backed:=?_,recAt:=?_,recN:=?_,waits:=?_,waitsU:=?_,plcs:=?_,plcN:=?_,olds:=?_,oldsN:=?_,endW:=?_,endN:=?_,endT:=?_,puts:=?_,begun:=?_,clock:=?_ }
 all_goals simp [st0,RS.uniq]
end Go.Proofs.Ytpbcplfpjcacfaa
