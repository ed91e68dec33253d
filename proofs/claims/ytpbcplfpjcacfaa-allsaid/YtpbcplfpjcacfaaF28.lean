import Derived.ProofKit
import Derived.OpenShut
import Derived.SizedLaws
import Derived.Lib.SmallJoins
import Derived.Deep.Slices
import Derived.Test.YtpbcplfpjcacfaaF27
namespace Go.Proofs.Ytpbcplfpjcacfaa
open Go.RowKit
set_option maxRecDepth 100000
set_option maxHeartbeats 8000000
theorem hasB_iff {l:List Nat} {n:Nat}:hasB l n=true↔n∈l:=by
 unfold hasB
 rw [List.any_eq_true]
 constructor
 ·rintro ⟨m,hm,e⟩
  rw [beq_iff_eq] at e
  rw [← e]; exact hm
 ·intro h; exact ⟨n,h,by simp⟩
theorem has_que {N:Nat} {st:RS} (F:st.Fit N) {q n:Nat}:hasB (st.queOf q) n=(st.waitRec (whoOf q n)).isSome:=by
 rw [Bool.eq_iff_iff,hasB_iff,wait_que F]
 cases h:st.waitRec (whoOf q n) with
 | none =>
  constructor
  ·rintro ⟨c,h1,h2,h3⟩
   rw [rec_none h h1 h3] at h2; cases h2
  ·intro h; cases h
 | some c =>
  obtain ⟨h1,h2,h3⟩:=rec_some h
  exact ⟨fun _=>rfl,fun _=>⟨c,h1,h2,h3⟩⟩
theorem has_beg {N:Nat} {st:RS} (F:st.Fit N) {q n:Nat}:hasB (st.begOf q) n=(st.txOf (whoOf q n)).isSome:=by
 rw [Bool.eq_iff_iff,hasB_iff]
 unfold RS.begOf
 constructor
 ·intro h
  obtain ⟨t,ht,e⟩:=List.mem_map.1 h
  obtain ⟨h1,h2⟩:=List.mem_filter.1 ht
  rw [beq_iff_eq] at h2
  have hw:=who_num (F.who t h1) h2 e
  obtain ⟨m,hm⟩:=List.mem_iff_getElem?.1 h1
  rw [txOf_at F.uniq hm hw]; rfl
 ·intro h
  obtain ⟨t,ht⟩:=Option.isSome_iff_exists.1 h
  obtain ⟨h1,h2⟩:=txOf_mem ht
  exact List.mem_map.2 ⟨t,List.mem_filter.2 ⟨h1,by rw [h2]; simp [whoOf_lab]⟩,by rw [h2,numOf_whoOf]⟩
theorem cnt_beg (st:RS) (q n:Nat):cntIx (whoOf q n).lab st.txns=(st.begOf q).length:=by
 unfold cntIx RS.begOf
 rw [List.length_map]
 congr 2
 funext t
 exact sameL_eq t.who.lab (labOf q)
theorem sim_act {N:Nat} {st:RS} {x:Stp} (F:st.Fit N) (hc:st.c≤32) (I:st.Inv) (PF:st.toPS.Fit) (S:Settled st) (hp:properB x=true) {q n:Nat} (hx:x.who=whoOf q n) (hq:q < 32) (hn:n < 4) (h0:((st.toPS.t q).ses n).ended=0) :
  (st.actT x).1.toPS=(st.toPS.actT q n x).1∧(st.actT x).2=(st.toPS.actT q n x).2∧(st.actT x).1.Inv:=by
 have hP:=proper_of hp
 have hQ:hasB (st.toPS.t q).queue n=(st.waitRec x.who).isSome:=by rw [hx]; exact has_que F
 have hB:hasB (st.toPS.t q).begun n=(st.txOf x.who).isSome:=by rw [hx]; exact has_beg F
 have hR:((st.toPS.t q).ses n).came=st.isReady x.who:=by rw [toPS_ses,← hx]; rfl
 have hO:st.isReady x.who=true→((st.toPS.t q).ses n).out=st.toldOf x.who:=fun h=>by
  rw [toPS_ses,← hx]
  show st.outOf x.who=_
  unfold RS.outOf
  rw [h,if_pos rfl]
 have hF:¬ (false=true):=by simp
 have hP0:st.toPS.actT q n x=if x.op=8 then st.toPS.pollT q n
   else if x.op=7 then st.toPS.abortT q n
   else if (st.isReady x.who || (st.waitRec x.who).isSome) then (st.toPS,⟨7,0,[]⟩)
   else if x.op=1 then st.toPS.beginT q n
   else if (st.txOf x.who).isSome=false then (st.toPS,⟨5,0,[]⟩)
   else if x.op=6 then st.toPS.commitT q n
   else st.toPS.askT q n x:=by
  unfold PS.actT Tr.busyB
  rw [if_neg (show ¬ (((st.toPS.t q).ses n).ended≠0) from fun h=>h h0),hR,hQ,hB]
 have hgone:(st.txOf x.who).isSome=false→(st.waitRec x.who).isSome=false∧st.isReady x.who=false:=fun h=>by
  have h1:st.txOf x.who=none:=by simpa using h
  constructor
  ·cases hw:st.waitRec x.who with
   | none=>rfl
   | some c =>
    obtain ⟨c1,_,c3⟩:=rec_some hw
    obtain ⟨t,ht,e⟩:=F.backed c c1
    have:=List.find?_eq_none.1 h1 t ht
    rw [e,c3] at this
    simp at this
  ·unfold RS.isReady; rw [h1]
 by_cases h8:x.op=8
 ·have eR:st.actT x=st.pollT x.who:=by unfold RS.actT; rw [if_pos h8]
  rw [eR,hP0,if_pos h8]
  unfold RS.pollT PS.pollT
  rw [hQ,hR]
  cases hw:(st.waitRec x.who).isSome with
  | true=>exact ⟨rfl,rfl,I⟩
  | false =>
   cases hr:st.isReady x.who with
   | false=>exact ⟨rfl,rfl,I⟩
   | true=>exact ⟨sim_unready hx hr,(hO hr).symm,I.mapTx (x:=x.who) (f:=fun t=>{ t with ready:=false }) (fun _=>rfl) (fun _=>rfl) (fun _=>rfl) (fun t ht=>I.vals t ht)⟩
 rw [if_neg h8] at hP0
 by_cases h7:x.op=7
 ·rw [if_pos h7] at hP0
  rw [hP0]
  unfold PS.abortT
  rw [hB]
  cases ht:(st.txOf x.who).isSome with
  | false =>
   have eR:st.actT x=(st,⟨5,0,[]⟩):=by unfold RS.actT; rw [if_neg h8,if_pos ⟨.inl h7,ht⟩]
   rw [eR,if_neg hF]
   exact ⟨rfl,rfl,I⟩
  | true =>
   have eR:st.actT x=((st.ends x.who true 0).againT,⟨0,0,[]⟩):=by unfold RS.actT; rw [if_neg h8,if_neg (fun h=>by rw [ht] at h; cases h.2),if_pos h7]
   rw [eR,if_pos rfl]
   obtain ⟨t,ht'⟩:=Option.isSome_iff_exists.1 ht
   have e:=sim_end F I hx ht'
   obtain ⟨g1,g2⟩:=sim_again (F.ends x.who true 0) (I.ends x.who true 0) (by rw [e]; exact PF.setT ((PF.tr q hq).endT n))
   refine ⟨?_,rfl,g2⟩
   dsimp only
   rw [g1,e]
   unfold PS.finishT
   rw [toPS_t]
 rw [if_neg h7] at hP0
 cases htx:(st.txOf x.who).isSome with
 | false =>
  obtain ⟨k1,k2⟩:=hgone htx
  rw [k1,k2,htx,if_neg (by simp)] at hP0
  have hbs:¬ ((st.waitRec x.who).isSome∨st.isReady x.who):=by rw [k1,k2]; simp
  by_cases h6:x.op=6
  ·have eR:st.actT x=(st,⟨5,0,[]⟩):=by unfold RS.actT; rw [if_neg h8,if_pos ⟨.inr h6,htx⟩]
   rw [if_neg (by omega),if_pos rfl] at hP0
   rw [eR,hP0]
   exact ⟨rfl,rfl,I⟩
  ·by_cases h1:x.op=1
   ·have eR:st.actT x=st.startT x.who:=by unfold RS.actT; rw [if_neg h8,if_neg (fun h=>by omega),if_neg h7,if_neg hbs,if_pos h1]
    rw [if_pos h1] at hP0
    rw [eR,hP0]
    unfold RS.startT PS.beginT
    rw [htx,hB,htx,hx,cnt_beg,show st.toPS.v=st.v from rfl,show (st.toPS.t q).begun.length=(st.begOf q).length from rfl]
    rw [if_neg hF,if_neg hF]
    by_cases hv:st.v≤((st.begOf q).length:Int)
    ·rw [if_pos hv,if_pos hv]; exact ⟨rfl,rfl,I⟩
    ·rw [if_neg hv,if_neg hv]
     exact ⟨sim_begin rfl (by rw [← hx]; simpa using htx),rfl,I.begin _⟩
   ·have eR:st.actT x=(st,⟨5,0,[]⟩):=by unfold RS.actT; rw [if_neg h8,if_neg (fun h=>by omega),if_neg h7,if_neg hbs,if_neg h1,if_pos htx]
    rw [if_neg h1,if_pos rfl] at hP0
    rw [eR,hP0]
    exact ⟨rfl,rfl,I⟩
 | true =>
  obtain ⟨t,ht'⟩:=Option.isSome_iff_exists.1 htx
  have hn2:¬ ((x.op=7∨x.op=6)∧(st.txOf x.who).isSome=false):=fun h=>by rw [htx] at h; cases h.2
  have hn3:¬ (st.txOf x.who).isSome=false:=by rw [htx]; simp
  by_cases hbs:(st.waitRec x.who).isSome∨st.isReady x.who
  ·have hbb:(st.isReady x.who || (st.waitRec x.who).isSome)=true:=by
    rw [Bool.or_eq_true]; exact hbs.symm
   have eR:st.actT x=(st,⟨7,0,[]⟩):=by unfold RS.actT; rw [if_neg h8,if_neg hn2,if_neg h7,if_pos hbs]
   rw [if_pos hbb] at hP0
   rw [eR,hP0]
   exact ⟨rfl,rfl,I⟩
  ·have hbb:¬ (st.isReady x.who || (st.waitRec x.who).isSome)=true:=by
    rw [Bool.or_eq_true]; exact fun h=>hbs h.symm
   rw [if_neg hbb] at hP0
   by_cases h1:x.op=1
   ·have eR:st.actT x=st.startT x.who:=by unfold RS.actT; rw [if_neg h8,if_neg hn2,if_neg h7,if_neg hbs,if_pos h1]
    rw [if_pos h1] at hP0
    rw [eR,hP0]
    unfold RS.startT PS.beginT
    rw [hB,htx]
    exact ⟨rfl,rfl,I⟩
   ·rw [if_neg h1,if_neg hn3] at hP0
    by_cases h6:x.op=6
    ·have eR:st.actT x=((st.ends x.who false 0).againT,⟨0,0,[]⟩):=by unfold RS.actT; rw [if_neg h8,if_neg hn2,if_neg h7,if_neg hbs,if_neg h1,if_neg hn3,if_pos h6]
     rw [if_pos h6] at hP0
     rw [eR,hP0]
     have e:=sim_commit F I hx ht'
     have PF1:(st.toPS.setI q ((st.wrOf x.who).over (st.itemOf q))).Fit:=PF.setT ((PF.tr q hq).same rfl rfl (fun _ _=>rfl) (fun _ _=>rfl))
     obtain ⟨g1,g2⟩:=sim_again (F.ends x.who false 0) (I.ends x.who false 0) (by rw [e]; exact PF1.setT ((PF1.tr q hq).endT n))
     refine ⟨?_,rfl,g2⟩
     unfold PS.commitT
     dsimp only
     rw [g1,e,show ((st.toPS.t q).ses n).wr=st.wrOf x.who by rw [toPS_ses,← hx]; rfl]
     unfold PS.finishT
     rw [toPS_t]
     exact congrArg (fun i=>((st.toPS.setI q ((st.wrOf x.who).over i)).setT q (((st.toPS.setI q ((st.wrOf x.who).over i)).t q).endT n)).settleT) (show st.itemOf q=(st.trOf q).items from rfl)
    ·have eR:st.actT x=st.askT x:=by unfold RS.actT; rw [if_neg h8,if_neg hn2,if_neg h7,if_neg hbs,if_neg h1,if_neg hn3,if_neg h6]
     rw [if_neg h6] at hP0
     rw [eR,hP0]
     exact sim_ask (actT_asking F hP hc h8 h7 h6 h1 (by
      cases hw:(st.waitRec x.who).isSome
      ·rfl
      ·exact absurd (.inl hw) hbs) (txOf_some hn3)) I PF S hp hx hq hn
def Whys (st:RS):Prop:=∀ e∈st.ended,0 < e.2
theorem Whys.ends {st:RS} (h:Whys st) (x:Wh) (b:Bool) (w:Int):Whys (st.ends x b w):=by
 rcases ends_rest st x b w with e | ⟨p,e⟩<;>rw [e]
 ·exact h
 ·intro z hz
  simp only at hz
  split at hz
  ·rcases List.mem_append.1 hz with hz | hz
   ·exact h z hz
   ·rw [List.mem_singleton.1 hz]; assumption
  ·exact h z hz
theorem closed_whys (x:Stp):Closed Whys x where
 told:=fun st h e he=>h e (List.mem_of_mem_eraseP he)
 unready:=fun st h=>h
 start:=fun st h _=>h
 quit:=fun st z b h=>h.ends z b 0
 dead:=fun st z h=>h.ends z true 2
 shove:=fun st _ a h _ _=>h.ends a.who true 1
 park:=fun st h _ _=>h
 take:=fun st h _ _=>h
 off:=fun st _ _ h _=>h
 does:=fun st z h=>by unfold Whys; rw [(does_recs st z).2]; exact h
 tell:=fun st z a h _ _=>h
theorem toldW_pos {st:RS} (h:Whys st) (x:Wh):0≤st.toldW x:=by
 unfold RS.toldW
 split
 ·rename_i e he
  have:=h e (List.mem_of_find?_eq_some he)
  omega
 ·exact Int.le_refl _
theorem untold_same {s:PS} {q n:Nat} (h:((s.t q).ses n).ended=0):s.untold q n=s:=by
 unfold PS.untold PS.setS Tr.setS
 have:upd (s.t q).ses n { (s.t q).ses n with ended:=0 }=(s.t q).ses:=by
  funext m
  unfold upd
  by_cases e:m=n
  ·rw [if_pos e,e,← h]
  ·rw [if_neg e]
 rw [this]
 exact setT_back s q
theorem sim_do {N:Nat} {st:RS} {x:Stp} (F:st.Fit N) (hc:st.c≤32) (I:st.Inv) (PF:st.toPS.Fit) (S:Settled st) (W:Whys st) :
  (st.doT x).1.toPS=(st.toPS.doT x).1∧(st.doT x).2=(st.toPS.doT x).2∧(st.doT x).1.Inv:=by
 unfold RS.doT PS.doT
 cases hp:properB x with
 | false=>exact ⟨rfl,rfl,I⟩
 | true =>
  have hTF:¬ (true=false):=by simp
  rw [if_neg hTF,if_neg hTF]
  obtain ⟨hq,hn,hx⟩:=proper_q hp
  generalize plOf x.who.lab=q at *
  generalize numOf x.who=n at *
  have hE:((st.toPS.t q).ses n).ended=st.toldW x.who:=by rw [toPS_ses,← hx]; rfl
  have hT:=sim_toldT F hx
  by_cases h0:0 < st.toldW x.who
  ·rw [if_pos h0]
   unfold PS.actT
   rw [if_pos (show ((st.toPS.t q).ses n).ended≠0 by rw [hE]; omega),hE]
   exact ⟨hT,rfl,I.told _⟩
  ·rw [if_neg h0]
   have hz:((st.toPS.t q).ses n).ended=0:=by rw [hE]; have:=toldW_pos W x.who; omega
   have e:(st.toldT x.who).toPS=st.toPS:=by rw [hT,untold_same hz]
   have S':Settled (st.toldT x.who):=S.same rfl
   have:=sim_act (st:=st.toldT x.who) (F.toldT _) hc (I.told _) (by rw [e]; exact PF) S' hp hx hq hn (by rw [e]; exact hz)
   rw [e] at this
   exact this
theorem inv0 (k v c:Int):(st0 k v c).Inv:=by
 constructor<;>simp [st0]
theorem toPS0 (k v c:Int):(st0 k v c).toPS=ps0 k v c:=rfl
theorem look_sim (st:RS) {l c:Int} (h:labB l c=true):listTo (st.toPS.t (plOf (l,c))).items 0 15 16=st.lookTo (l,c) 16:=by
 rw [show listTo (st.toPS.t (plOf (l,c))).items 0 15 16=listTo (st.toPS.t (plOf (l,c))).items ((0:Nat):Int) ((15:Nat):Int) 16 from rfl,listTo_window _ (by omega) (by omega)]
 unfold RS.lookTo
 refine filterMap_cg (fun k _=>?_)
 show (toOpt (st.comm (labOf (plOf (l,c))) ((0+k:Nat):Int))).map _=lookPick st (l,c) k
 rw [labOf_plOf (a:=(l,c)) h,Nat.zero_add]
 unfold lookPick toOpt
 split<;>rfl
def theDoc:thePgm.Doc where
 Sim:=fun N s st=>s=st.toPS∧st.Fit N∧st.c≤32∧st.Inv∧Settled st∧Whys st
 start:=fun h=>⟨(toPS0 _ _ _).symm,Fit0 _ _ _,(mayB_t h).2.2.2.2.2,inv0 _ _ _,(fun c hc=>by cases hc),(fun e he=>by cases he)⟩
 ans:=fun {N s st} x h PF=>by
  obtain ⟨rfl,F,hc,I,S,W⟩:=h
  exact (sim_do F hc I PF S W).2.1.symm
 step:=fun {N s st} x h PF=>by
  obtain ⟨rfl,F,hc,I,S,W⟩:=h
  obtain ⟨h1,h2,h3⟩:=sim_do (x:=x) F hc I PF S W
  exact ⟨h1.symm,F.doT x hc,by rw [(doT_cfg st x).2.2]; exact hc,h3,S.doT F hc,(closed_whys x).doT st W⟩
 mono:=fun {N s st} h=>by
  obtain ⟨h1,F,h⟩:=h
  exact ⟨h1,F.mono (Nat.le_succ N),h⟩
 look:=fun {N s st l c} h _ hl=>by
  obtain ⟨rfl,_⟩:=h
  exact look_sim st hl
end Go.Proofs.Ytpbcplfpjcacfaa
namespace Go.Proofs.Ytpbcplfpjcacfaa
open Go.ChangeShapes Go.WideShapes Go.ChangeAt Go.RowKit Go.Joins Go.Deep
set_option maxRecDepth 100000
set_option maxHeartbeats 8000000
theorem tryOwn:ownKnob Try.prog.godebug=none:=by kernel_rfl
theorem tryLaid:laidOutB Try.prog=true:=by kernel_rfl
theorem cellsInt:Try.prog.cellsOf 3=1:=by kernel_rfl
theorem cellsLabel:Try.prog.cellsOf 25=2:=by kernel_rfl
theorem cellsWho:Try.prog.cellsOf 28=3:=by kernel_rfl
theorem cellsStep:Try.prog.cellsOf 30=9:=by kernel_rfl
theorem cellsConfig:Try.prog.cellsOf 23=3:=by kernel_rfl
section
variable {H:Type} {enc:TypeId × Value→H} {W:World} {base:Nat} {sp:Nat→Bool} {hd:Bool}
theorem trod_i {fuel:Nat} {cs:List Value} {x:DataW H × List MemPlace} (h:DataW.trod enc Try.prog W base sp hd fuel 3 cs=some x):∃ a:Int,cs=[.int .i64 a]:=by
 obtain ⟨a,h1,_⟩:=DataW.trod_int Try.underlying3 h
 exact ⟨a,h1⟩
theorem trod_label {fuel:Nat} {cs:List Value} {x:DataW H × List MemPlace} (h:DataW.trod enc Try.prog W base sp hd fuel 25 cs=some x):∃ a b:Int,cs=[.int .i64 a,.int .i64 b]:=by
 obtain ⟨xs,n,_,_,hl,hxl,hf⟩:=DataW.trod_struct Try.underlying25 h
 rw [cellsLabel] at hl
 match xs,hxl,cs,hl with
 | [y0,y1],_,[c0,c1],_ =>
  have g0:=hf 0 _ rfl
  have g1:=hf 1 _ rfl
  simp [cellsInt] at g0 g1
  obtain ⟨a,ha⟩:=trod_i g0
  obtain ⟨b,hb⟩:=trod_i g1
  simp at ha hb
  exact ⟨a,b,by rw [ha,hb]⟩
theorem trod_who {fuel:Nat} {cs:List Value} {x:DataW H × List MemPlace} (h:DataW.trod enc Try.prog W base sp hd fuel 28 cs=some x):∃ a b c:Int,cs=[.int .i64 a,.int .i64 b,.int .i64 c]:=by
 obtain ⟨xs,n,_,_,hl,hxl,hf⟩:=DataW.trod_struct Try.underlying28 h
 rw [cellsWho] at hl
 match xs,hxl,cs,hl with
 | [y0,y1],_,[c0,c1,c2],_ =>
  have g0:=hf 0 _ rfl
  have g1:=hf 1 _ rfl
  simp [cellsInt,cellsLabel] at g0 g1
  obtain ⟨a,b,ha⟩:=trod_label g0
  obtain ⟨c,hc⟩:=trod_i g1
  simp at ha hc
  exact ⟨a,b,c,by rw [ha.1,ha.2,hc]⟩
theorem trod_step {fuel:Nat} {cs:List Value} {x:DataW H × List MemPlace} (h:DataW.trod enc Try.prog W base sp hd fuel 30 cs=some x):∃ s:Stp,cs=stepC s:=by
 obtain ⟨xs,n,_,_,hl,hxl,hf⟩:=DataW.trod_struct Try.underlying30 h
 rw [cellsStep] at hl
 match xs,hxl,cs,hl with
 | [y0,y1,y2,y3,y4,y5],_,[c0,c1,c2,c3,c4,c5,c6,c7,c8],_ =>
  have g0:=hf 0 _ rfl
  have g1:=hf 1 _ rfl
  have g2:=hf 2 _ rfl
  have g3:=hf 3 _ rfl
  have g4:=hf 4 _ rfl
  have g5:=hf 5 _ rfl
  simp [cellsInt,cellsLabel,cellsWho] at g0 g1 g2 g3 g4 g5
  obtain ⟨a,b,c,ha⟩:=trod_who g0
  obtain ⟨d,hd⟩:=trod_i g1
  obtain ⟨e,f,he⟩:=trod_label g2
  obtain ⟨k,hk⟩:=trod_i g3
  obtain ⟨t,ht⟩:=trod_i g4
  obtain ⟨v,hv⟩:=trod_i g5
  simp at ha hd he hk ht hv
  exact ⟨⟨(a,b,c),d,(e,f),k,t,v⟩,by simp [stepC,ha,hd,he,hk,ht,hv]⟩
theorem open_rows {α:Type} [Inhabited α] (f:α→List Value) {t e size:Nat} (ht:Try.prog.underlying t=some (.slice e)) (hc:Try.prog.cellsOf e=size) (h0:0 < size)
  (hf:∀ n cs y,DataW.trod enc Try.prog W base sp hd n e cs=some y→∃ x,cs=f x) {fuel:Nat} {v:Value} {d:DataW H} {p:List MemPlace} (h:DataW.trod enc Try.prog W base sp hd fuel t [v]=some (d,p)) :
  ∃ ao cap,∃ l:List α,v=.slice ao l.length cap∧l.length≤maxLen∧(∀ i o,l[i]?=some o→∃ b off,ao=some ⟨b,off,none⟩∧b < W.heap.size∧W.rangeAt b (off+i*size) (f o))∧(d=.nil∧l=[]∨∃ es s,d=.slice es s∧es.length=l.length):=by
 rcases open_slice ht h with ⟨h1,h2⟩ | ⟨a,len,cap,m,n,D,Pl,h1,hb,hl,hm,hmm,h2,hx⟩
 ·simp only [List.cons.injEq,and_true] at h1
  simp only [Prod.mk.injEq] at h2
  exact ⟨none,0,[],h1,Nat.zero_le _,fun i o hi=>by simp at hi,.inl ⟨h2.1,rfl⟩⟩
 ·simp only [List.cons.injEq,and_true] at h1
  simp only [Prod.mk.injEq] at h2
  rw [hc] at hx
  have hlm:len≤m:=by rw [hmm]; split<;>omega
  have each:∀ i,i < m→∃ x:α,∀ j u,(f x)[j]?=some u→W.cell? (a.add (i*size+j))=some u∧W.cell? (a.add (i*size))≠none:=fun i hi=>by
   obtain ⟨cs,h1,h2⟩:=hx i hi
   obtain ⟨x,rfl⟩:=hf _ _ _ h2
   obtain ⟨_,hlen,hcell⟩:=World.cells?_some h1
   refine ⟨x,fun j u hj=>?_⟩
   have hj':j < size:=by rw [← hlen]; exact (List.getElem?_eq_some_iff.1 hj).1
   have e1:=hcell j hj'
   have e0:=hcell 0 h0
   rw [add_add] at e1 e0
   refine ⟨by rw [e1,hj],?_⟩
   rw [show i*size+0=i*size by omega] at e0
   rw [e0,List.getElem?_eq_getElem (by omega)]; simp
  obtain ⟨q,hq⟩:=choose_lt each
  refine ⟨some a,cap,(List.range len).map q,by simpa using h1,by simp; omega,fun i o hi=>?_,.inr ⟨_,_,h2.1,by simp⟩⟩
  have hil:i < len:=by have:=(List.getElem?_eq_some_iff.1 hi).1; simpa using this
  have ho:q i=o:=by simpa [List.getElem?_map,List.getElem?_range hil] using hi
  subst ho
  obtain ⟨b,off,spot⟩:=a
  have hcell:=hq i (by omega)
  have hsome:=hx 0 (by omega)
  obtain ⟨cs0,g1,g2⟩:=hsome
  obtain ⟨_,glen,gcell⟩:=World.cells?_some g1
  have e0:=gcell 0 h0
  rw [List.getElem?_eq_getElem (by omega),add_add] at e0
  have hspot:spot=none:=by simpa [Addr.add] using World.cell?_spot e0
  subst hspot
  refine ⟨b,off,rfl,?_,fun j u hj=>?_⟩
  ·have:(⟨b,off,none⟩:Addr).add (0*size+0)=⟨b,off,none⟩:=by simp [Addr.add]
   rw [this] at e0
   unfold World.cell? at e0
   simp only at e0
   split at e0
   ·rename_i hh
    exact (Array.getElem?_eq_some_iff.1 hh).1
   ·cases e0
  ·have:=(hcell j u hj).1
   rw [show (⟨b,off,none⟩:Addr).add (i*size+j)=⟨b,off+(i*size+j),none⟩ by simp [Addr.add]] at this
   rw [Nat.add_assoc]; exact this
end
end Go.Proofs.Ytpbcplfpjcacfaa
