import Derived.RegionTactic
import Derived.Test.YtpbcplfpjcacfaaF04
namespace Go.Proofs.Ytpbcplfpjcacfaa
open Go.RowKit
set_option maxRecDepth 100000
set_option maxHeartbeats 8000000
def Stp.wr (x:Stp):Bool:=decide (x.op=4∨x.op=5)
def Stp.hi (x:Stp):Int:=if x.op=3 then x.to_ else x.key
def RS.askR (st:RS) (x:Stp):Rc:=⟨x.who,x.at_,x.key,x.hi,x.wr,false,st.clock+1⟩
def Rc.on (c:Rc):Rc:={ c with waits:=true }
def Stp.barred (x:Stp):Bool:=!domB x.who.1 x.who.2.1 x.at_.1 x.at_.2 || (x.wr && !sameL x.at_.1 x.at_.2 x.who.1 x.who.2.1)
def covP (x:Wh) (r c:Rc):Bool:=sameW c.who.1 c.who.2.1 c.who.2.2 x.1 x.2.1 x.2.2 && coverB c r
def labN (x:Wh) (l:List Rc):Nat:=(l.filter (fun c=>sameL c.who.1 c.who.2.1 x.1 x.2.1)).length
def RS.setStep (st:RS) (x:Stp):RS:={ st with txns:=st.txns.map (fun t=>if t.who == x.who then { t with step:=x } else t) }
def RS.addRec (st:RS) (c:Rc):RS:={ st with clock:=st.clock+1,recs:=st.recs++[c] }
def RS.took (st:RS) (x:Stp):RS × Ans:=(((st.addRec (st.askR x)).clearT (st.askR x)).does x |>.1.againT,((st.addRec (st.askR x)).clearT (st.askR x)).does x |>.2)
def RS.parked (st:RS) (x:Stp):RS × Ans:=((st.addRec (st.askR x).on).setStep x).ringsT x.who
def RS.askT (st:RS) (x:Stp):RS × Ans :=
 if x.barred then (st,⟨3,0,[]⟩)
 else if st.recs.any (covP x.who (st.askR x)) then st.does x
 else if st.c≤(labN x.who st.recs:Int) then (st,⟨4,0,[]⟩)
 else if st.hindered (st.askR x) then st.parked x else st.took x
theorem RS.Fit.mono {N M:Nat} {st:RS} (F:st.Fit N) (h:N≤M):st.Fit M :=
 { F with
  puts:=fun t ht=>⟨Nat.le_trans (F.puts t ht).1 h,fun hq=>Nat.le_trans ((F.puts t ht).2 hq) h⟩
  begun:=⟨F.begun.1,by have:=F.begun.2; omega⟩
  clock:=⟨F.clock.1,by have:=F.clock.2; omega⟩ }
structure Asking (N:Nat) (st:RS) (x:Stp):Prop where
 fit:st.Fit N
 good:x.Good
 live:∃ t∈st.txns,t.who=x.who
 nowait:∀ c∈st.recs,c.who=x.who→c.waits=false
 at_:x.at_.ok
 cap:st.c≤32
theorem RS.Fit.does {N:Nat} {st:RS} {x:Stp} (F:st.Fit N) (hg:x.Good) (hl:∃ t∈st.txns,t.who=x.who) (hp:∀ t∈st.txns,t.who=x.who→t.puts.length+1≤N) (hn:∀ c∈st.recs,c.who=x.who→c.waits=false):(st.does x).1.Fit N:=by
 obtain ⟨n,t,hnt,ht,_⟩:=F.liveAt hl
 rw [does_at F.uniq hnt ht]
 exact F.job hnt hg (hp t (List.mem_of_getElem? hnt) ht) (fun ⟨c,hc,h1,h2⟩=>by have:=hn c hc (by rw [h1,ht]); rw [h2] at this; cases this)
theorem labN_eq {N:Nat} {st:RS} (F:st.Fit N) {x:Wh} (hx:x.ok):(st.recs.filter (fun c=>labCode c.who.lab == labCode x.lab)).length=labN x st.recs:=by
 unfold labN
 congr 1
 refine List.filter_congr fun c hc=>?_
 have hc':=(F.recW hc).1
 cases h:sameL c.who.1 c.who.2.1 x.1 x.2.1
 ·simp only [beq_eq_false_iff_ne,ne_eq]
  intro e
  have:=labCode_inj hc' hx.1 e
  have h2:sameL c.who.1 c.who.2.1 x.1 x.2.1=true:=sameL_t this
  rw [h] at h2; cases h2
 ·have:c.who.lab=x.lab:=by
   simp only [sameL,decide_eq_true_eq] at h
   exact Prod.ext h.1 h.2
  rw [this]; simp
theorem RS.Fit.addRec {N:Nat} {st:RS} (F:st.Fit N) {c:Rc} (hl:∃ t∈st.txns,t.who=c.who) (ha:c.at_.ok) (hn:labN c.who st.recs < 32) (hw:c.waits=true→(∀ t∈st.txns,t.who=c.who→t.step.asks c)∧∀ d∈st.recs,d.who=c.who→d.waits=false):(st.addRec c).Fit (N+1):=by
 have F1:=F.mono (Nat.le_succ N)
 have hxo:c.who.ok:=by obtain ⟨t,ht,e⟩:=hl; rw [← e]; exact F.who t ht
 have hmem:∀ d,d∈st.recs++[c]→d∈st.recs∨d=c:=fun d hd=>by simpa using hd
 refine { F1 with backed:=?_,recAt:=?_,recN:=?_,waits:=?_,waitsU:=?_,puts:=?_,clock:=?_ }
 ·intro d hd
  rcases hmem d hd with h | rfl
  ·exact F.backed d h
  ·exact hl
 ·intro d hd
  rcases hmem d hd with h | rfl
  ·exact F.recAt d h
  ·exact ha
 ·intro a
  show ((st.recs++[c]).filter _).length≤32
  rw [List.filter_append,List.length_append]
  by_cases e:labCode c.who.lab=a
  ·subst e
   have:=labN_eq F hxo
   rw [List.filter_cons_of_pos (by simp),List.filter_nil,List.length_singleton]
   omega
  ·have:=F.recN a
   rw [List.filter_cons_of_neg (by simpa using e),List.filter_nil,List.length_nil]
   exact this
 ·intro d hd hdw t ht e
  rcases hmem d hd with h | rfl
  ·exact F.waits d h hdw t ht e
  ·exact (hw hdw).1 t ht e
 ·show (((st.recs++[c]).filter (·.waits)).map (·.who)).Nodup
  rw [List.filter_append,List.map_append]
  cases hcw:c.waits
  ·simp [hcw]; exact F.waitsU
  ·refine List.nodup_append.2 ⟨F.waitsU,by simp [hcw],?_⟩
   intro y hy z hz e
   obtain ⟨d,hd,rfl⟩:=List.mem_map.1 hy
   simp [hcw] at hz
   have h1:=List.mem_filter.1 hd
   have:=(hw hcw).2 d h1.1 (by rw [e,hz])
   rw [this] at h1; cases h1.2
 ·intro t ht
  obtain ⟨h1,h2⟩:=F.puts t ht
  exact ⟨by omega,fun _=>by omega⟩
 ·have:=F.clock
  show 0≤st.clock+1∧st.clock+1≤((N+1:Nat):Int)
  omega
theorem setStep_at {st:RS} {x:Stp} {n:Nat} {t:Tx} (hu:st.uniq) (hn:st.txns[n]?=some t) (ht:t.who=x.who):st.setStep x={ st with txns:=st.txns.set n { t with step:=x } }:=by
 unfold RS.setStep
 congr 1
 refine List.ext_getElem? fun m=>?_
 rw [List.getElem?_map]
 by_cases hmn:n=m
 ·subst hmn
  rw [List.getElem?_set_self (List.getElem?_eq_some_iff.1 hn).1,hn]; simp [ht]
 ·rw [List.getElem?_set_ne hmn]
  cases hq:st.txns[m]? with
  | none=>rfl
  | some u =>
   have hw:u.who≠x.who:=fun e=>hmn (hu n m t u hn hq (by rw [ht,e]))
   simp [hw]
theorem RS.Fit.setStep {N:Nat} {st:RS} {x:Stp} (F:st.Fit N) (hl:∃ t∈st.txns,t.who=x.who) (hn:∀ c∈st.recs,c.who=x.who→c.waits=false):(st.setStep x).Fit N:=by
 obtain ⟨n,t,hnt,ht,_⟩:=F.liveAt hl
 have htm:=List.mem_of_getElem? hnt
 rw [setStep_at F.uniq hnt ht]
 exact F.setTxn hnt (u:={ t with step:=x }) rfl (F.olds t htm) (F.oldsN t htm) (fun c hc hw e=>by have:=hn c hc (by rw [← e]; exact ht); rw [hw] at this; cases this) (F.puts t htm)
theorem askR_asks {st:RS} {x:Stp} (hg:x.Good) (hb:x.barred=false):x.asks (st.askR x).on:=by
 refine ⟨rfl,rfl,hg,rfl,rfl,by show x.wr=true↔_; unfold Stp.wr; simp,fun hw=>?_⟩
 have hw':x.wr=true:=hw
 unfold Stp.barred at hb
 rw [hw'] at hb
 simp only [Bool.or_eq_false_iff,Bool.true_and,Bool.not_eq_false'] at hb
 have h2:=hb.2
 simp only [sameL,decide_eq_true_eq] at h2
 exact Prod.ext h2.1 h2.2
namespace Asking
variable {N:Nat} {st:RS} {x:Stp}
theorem does (A:Asking N st x):(st.does x).1.Fit (N+1):=(A.fit.mono (Nat.le_succ N)).does A.good A.live (fun t ht _=>by have:=(A.fit.puts t ht).1; omega) A.nowait
theorem add (A:Asking N st x) (hc:¬ st.c≤(labN x.who st.recs:Int)):(st.addRec (st.askR x)).Fit (N+1) :=
 A.fit.addRec A.live A.at_ (by show labN x.who st.recs < 32; have:=A.cap; omega) (fun h=>by cases h)
theorem tookN (A:Asking N st x):∀ c∈((st.addRec (st.askR x)).clearT (st.askR x)).recs,c.who=x.who→c.waits=false:=by
 intro c hc e
 have:=(clearT_sub (st.addRec (st.askR x)) (st.askR x)).mem hc
 change c∈st.recs++[st.askR x] at this
 rcases List.mem_append.1 this with h | h
 ·exact A.nowait c h e
 ·simp at h; rw [h]; rfl
theorem tookL (A:Asking N st x) (hb:x.barred=false) {t:Tx} (ht:t∈st.txns) (hw:t.who=x.who):t∈((st.addRec (st.askR x)).clearT (st.askR x)).txns:=by
 refine clearT_keep (st:=st.addRec (st.askR x)) ht (fun hwr y hy hp e=>?_)
 have hl:x.at_=x.who.lab:=(askR_asks (st:=st) A.good hb).2.2.2.2.2.2 hwr
 have h2:sameL y.who.1 y.who.2.1 x.at_.1 x.at_.2=true:=by rw [hl,e,hw]; simp [sameL,Wh.lab]
 unfold clrP at hp
 rw [show (st.askR x).at_=x.at_ from rfl,h2] at hp
 simp at hp
theorem cleared (A:Asking N st x) (hc:¬ st.c≤(labN x.who st.recs:Int)):((st.addRec (st.askR x)).clearT (st.askR x)).Fit (N+1):=(A.add hc).clearT _
theorem doesTook (A:Asking N st x) (hb:x.barred=false) (hc:¬ st.c≤(labN x.who st.recs:Int)):(((st.addRec (st.askR x)).clearT (st.askR x)).does x).1.Fit (N+1):=by
 obtain ⟨t,ht,hw⟩:=A.live
 have hk:=A.tookL hb ht hw
 refine (A.cleared hc).does A.good ⟨t,hk,hw⟩ (fun u hu e=>?_) A.tookN
 obtain ⟨m,hm⟩:=List.mem_iff_getElem?.1 hu
 obtain ⟨m',hm'⟩:=List.mem_iff_getElem?.1 hk
 have:=(A.cleared hc).uniq m m' u t hm hm' (by rw [e,hw])
 subst this
 rw [hm] at hm'
 obtain rfl:=Option.some.inj hm'
 have:=(A.fit.puts u ht).1
 omega
theorem parked (A:Asking N st x) (hb:x.barred=false) (hc:¬ st.c≤(labN x.who st.recs:Int)):((st.addRec (st.askR x).on).setStep x).Fit (N+1):=by
 have h1:=A.fit.setStep A.live A.nowait
 have e:(st.addRec (st.askR x).on).setStep x=(st.setStep x).addRec (st.askR x).on:=rfl
 rw [e]
 obtain ⟨n,t,hnt,ht,_⟩:=A.fit.liveAt A.live
 have hs:=setStep_at A.fit.uniq hnt ht
 have hself:{ t with step:=x }∈(st.setStep x).txns:=by
  rw [hs]; exact List.mem_iff_getElem?.2 ⟨n,by rw [List.getElem?_set_self (List.getElem?_eq_some_iff.1 hnt).1]⟩
 refine h1.addRec (c:=(st.askR x).on) ⟨_,hself,ht⟩ A.at_ (by show labN x.who st.recs < 32; have:=A.cap; omega) (fun _=>⟨fun u hu e2=>?_,A.nowait⟩)
 obtain ⟨m,hm⟩:=List.mem_iff_getElem?.1 hu
 obtain ⟨m',hm'⟩:=List.mem_iff_getElem?.1 hself
 have:=h1.uniq m m' u _ hm hm' (by rw [e2]; exact ht.symm)
 subst this
 rw [hm] at hm'
 obtain rfl:=Option.some.inj hm'
 exact askR_asks A.good hb
theorem ask (A:Asking N st x):(st.askT x).1.Fit (N+1):=by
 unfold RS.askT
 split
 ·exact A.fit.mono (Nat.le_succ N)
 ·rename_i hb
  split
  ·exact A.does
  ·split
   ·exact A.fit.mono (Nat.le_succ N)
   ·rename_i hc
    have hb':x.barred=false:=by simpa using hb
    split
    ·exact (A.parked hb' hc).ringsT _
    ·exact (A.doesTook hb' hc).againT
end Asking
def RS.unready (st:RS) (x:Wh):RS:={ st with txns:=st.txns.map (fun t=>if t.who == x then { t with ready:=false } else t) }
def RS.isReady (st:RS) (x:Wh):Bool:=match st.txOf x with
 | none=>false
 | some t=>t.ready
def RS.toldOf (st:RS) (x:Wh):Ans:=match st.txOf x with
 | none=>⟨8,0,[]⟩
 | some t=>t.told
def RS.pollT (st:RS) (x:Wh):RS × Ans :=
 if (st.waitRec x).isSome then (st,⟨1,0,[]⟩)
 else if st.isReady x then (st.unready x,st.toldOf x) else (st,⟨8,0,[]⟩)
def RS.startT (st:RS) (x:Wh):RS × Ans :=
 if (st.txOf x).isSome then (st,⟨6,0,[]⟩)
 else if st.v≤(cntIx x.lab st.txns:Int) then (st,⟨4,0,[]⟩) else (st.beginT x,⟨0,0,[]⟩)
def RS.actT (st:RS) (x:Stp):RS × Ans :=
 if x.op=8 then st.pollT x.who
 else if (x.op=7∨x.op=6)∧(st.txOf x.who).isSome=false then (st,⟨5,0,[]⟩)
 else if x.op=7 then ((st.ends x.who true 0).againT,⟨0,0,[]⟩)
 else if (st.waitRec x.who).isSome∨st.isReady x.who then (st,⟨7,0,[]⟩)
 else if x.op=1 then st.startT x.who
 else if (st.txOf x.who).isSome=false then (st,⟨5,0,[]⟩)
 else if x.op=6 then ((st.ends x.who false 0).againT,⟨0,0,[]⟩)
 else st.askT x
def RS.doT (st:RS) (x:Stp):RS × Ans :=
 if properB x=false then (st,⟨9,0,[]⟩)
 else if 0 < st.toldW x.who then (st.toldT x.who,⟨2,st.toldW x.who,[]⟩)
 else (st.toldT x.who).actT x
theorem txOf_cases (st:RS) (x:Wh):(st.txOf x=none∧st.live x=-1∧∀ t∈st.txns,t.who≠x)∨∃ (m:Nat) (t:Tx),st.txOf x=some t∧st.live x=(m:Int)∧st.txns[m]?=some t∧t.who=x:=by
 unfold RS.txOf RS.live
 have gen:∀ (l:List Tx) (k:Nat),(l.find? (fun t=>t.who == x)=none∧liveIx x l k=-1∧∀ t∈l,t.who≠x)∨∃ (m:Nat) (t:Tx),l.find? (fun t=>t.who == x)=some t∧liveIx x l k=((k+m:Nat):Int)∧l[m]?=some t∧t.who=x:=by
  intro l
  induction l with
  | nil=>intro k; exact .inl ⟨rfl,rfl,by simp⟩
  | cons a l ih =>
   intro k
   by_cases h:a.who=x
   ·refine .inr ⟨0,a,?_,?_,rfl,h⟩
    ·rw [List.find?_cons_of_pos (by simpa using h)]
    ·rw [liveIx,if_pos h]; simp
   ·rw [liveIx,if_neg h,List.find?_cons_of_neg (by simpa using h)]
    rcases ih (k+1) with ⟨h1,h2,h3⟩ | ⟨m,t,h1,h2,h3,h4⟩
    ·exact .inl ⟨h1,h2,fun t ht=>by rcases List.mem_cons.1 ht with rfl | ht; exact h; exact h3 t ht⟩
    ·exact .inr ⟨m+1,t,h1,by rw [h2]; congr 1; omega,by simpa using h3,h4⟩
 have:=gen st.txns 0
 simpa using this
theorem unready_at {st:RS} {x:Wh} {n:Nat} {t:Tx} (hu:st.uniq) (hn:st.txns[n]?=some t) (ht:t.who=x):st.unready x={ st with txns:=st.txns.set n { t with ready:=false } }:=by
 unfold RS.unready
 congr 1
 refine List.ext_getElem? fun m=>?_
 rw [List.getElem?_map]
 by_cases hmn:n=m
 ·subst hmn
  rw [List.getElem?_set_self (List.getElem?_eq_some_iff.1 hn).1,hn]; simp [ht]
 ·rw [List.getElem?_set_ne hmn]
  cases hq:st.txns[m]? with
  | none=>rfl
  | some u =>
   have hw:u.who≠x:=fun e=>hmn (hu n m t u hn hq (by rw [ht,e]))
   simp [hw]
theorem isW_iff (x:Wh) (e:Wh × Int):isW x e=true↔e.1=x:=by
 unfold isW sameW
 simp only [decide_eq_true_eq]
 constructor
 ·rintro ⟨h1,h2,h3⟩; exact Prod.ext h1 (Prod.ext h2 h3)
 ·rintro rfl; exact ⟨rfl,rfl,rfl⟩
theorem RS.Fit.toldT {N:Nat} {st:RS} (F:st.Fit N) (x:Wh):(st.toldT x).Fit N:=by
 have hs:(st.ended.eraseP (isW x)).Sublist st.ended:=List.eraseP_sublist
 exact { F with
  endW:=fun e he=>F.endW e (hs.mem he)
  endN:=F.endN.sublist (hs.map _)
  endT:=fun e he=>F.endT e (hs.mem he) }
theorem told_gone {N:Nat} {st:RS} (F:st.Fit N) (x:Wh):∀ e∈(st.toldT x).ended,e.1≠x:=by
 intro e he hx
 change e∈st.ended.eraseP (isW x) at he
 have hN:=F.endN
 generalize st.ended=l at he hN
 induction l with
 | nil=>simp at he
 | cons a l ih =>
  rw [List.map_cons,List.nodup_cons] at hN
  rw [List.eraseP_cons] at he
  cases ha:isW x a with
  | true =>
   rw [ha] at he
   simp only [cond_true] at he
   exact hN.1 (List.mem_map.2 ⟨e,he,by rw [hx,(isW_iff x a).1 ha]⟩)
  | false =>
   rw [ha] at he
   simp only [cond_false] at he
   rcases List.mem_cons.1 he with rfl | he
   ·have:=(isW_iff x e).2 hx; rw [ha] at this; cases this
   ·exact ih he hN.2
theorem RS.Fit.unready {N:Nat} {st:RS} (F:st.Fit N) (x:Wh):(st.unready x).Fit N:=by
 rcases txOf_cases st x with ⟨_,_,h⟩ | ⟨m,t,_,_,h2,h3⟩
 ·have:st.unready x=st:=by
   unfold RS.unready
   have:st.txns.map (fun t=>if t.who == x then { t with ready:=false } else t)=st.txns:=by
    conv=>rhs; rw [← List.map_id st.txns]
    refine List.map_congr_left fun t ht=>?_
    simp [h t ht]
   rw [this]
  rw [this]; exact F
 ·rw [unready_at F.uniq h2 h3]
  exact F.told h2 false t.told
theorem RS.Fit.beginT {N:Nat} {st:RS} (F:st.Fit N) {x:Wh} (hx:x.ok) (hl:∀ t∈st.txns,t.who≠x) (he:∀ e∈st.ended,e.1≠x):(st.beginT x).Fit (N+1):=by
 have F1:=F.mono (Nat.le_succ N)
 have hmem:∀ t,t∈st.txns++[newTx x (st.begun+1)]→t∈st.txns∨t=newTx x (st.begun+1):=fun t ht=>by simpa using ht
 have hrec:∀ c∈st.recs,c.who≠x:=fun c hc e=>by
  obtain ⟨t,ht,h⟩:=F.backed c hc
  exact hl t ht (by rw [h,e])
 refine { F1 with uniq:=?_,who:=?_,backed:=?_,waits:=?_,olds:=?_,oldsN:=?_,endT:=?_,puts:=?_,begun:=?_ }
 ·refine uniq_of ?_
  show ((st.txns++[newTx x (st.begun+1)]).map (·.who)).Nodup
  rw [List.map_append]
  refine List.nodup_append.2 ⟨F.txnsN,by simp,?_⟩
  intro a ha b hb e
  obtain ⟨t,ht,rfl⟩:=List.mem_map.1 ha
  simp [newTx] at hb
  exact hl t ht (by rw [e,hb])
 ·intro t ht
  rcases hmem t ht with h | rfl
  ·exact F.who t h
  ·exact hx
 ·intro c hc
  obtain ⟨t,ht,h⟩:=F.backed c hc
  exact ⟨t,List.mem_append_left _ ht,h⟩
 ·intro c hc hw t ht e
  rcases hmem t ht with h | rfl
  ·exact F.waits c hc hw t h e
  ·exact absurd e.symm (hrec c hc)
 ·intro t ht
  rcases hmem t ht with h | rfl
  ·exact F.olds t h
  ·intro o ho; simp [newTx] at ho
 ·intro t ht
  rcases hmem t ht with h | rfl
  ·exact F.oldsN t h
  ·simp [newTx]
 ·intro e hee t ht
  rcases hmem t ht with h | rfl
  ·exact F.endT e hee t h
  ·exact fun h=>he e hee h.symm
 ·intro t ht
  rcases hmem t ht with h | rfl
  ·obtain ⟨h1,h2⟩:=F1.puts t h
   exact ⟨h1,h2⟩
  ·refine ⟨by simp [newTx],fun ⟨c,hc,h1,_⟩=>absurd h1 (hrec c hc)⟩
 ·have:=F.begun
  show 0≤st.begun+1∧st.begun+1≤((N+1:Nat):Int)
  omega
structure Proper (x:Stp):Prop where
 who:x.who.ok
 op:1≤x.op∧x.op≤8
 asks:x.op=2∨x.op=3∨x.op=4∨x.op=5→x.Good∧x.at_.ok
theorem labB_ok {a:Lab} (h:labB a.1 a.2=true):a.ok:=by unfold labB at h; unfold Lab.ok; simpa using h
theorem proper_of {x:Stp} (h:properB x=true):Proper x:=by
 unfold properB at h
 simp only [Bool.and_eq_true,decide_eq_true_eq] at h
 obtain ⟨⟨h1,h2,h3,h4,h5⟩,h6⟩:=h
 refine ⟨⟨labB_ok (a:=x.who.lab) h1,h2,h3⟩,⟨h4,h5⟩,fun ho=>?_⟩
 have ha:asksB x.op=true:=by unfold asksB; simpa using ho
 rw [ha] at h6
 simp only [Bool.not_true,Bool.false_or,Bool.and_eq_true,decide_eq_true_eq,Bool.or_eq_true,Bool.not_eq_true',decide_eq_false_iff_not] at h6
 obtain ⟨⟨⟨h7,h8⟩,h9⟩,h10⟩:=h6
 exact ⟨⟨ho,h8,fun h3=>by rcases h9 with h | h; exact absurd h3 h; exact h⟩,labB_ok h7⟩
theorem waitRec_none {st:RS} {x:Wh} (h:(st.waitRec x).isSome=false):∀ c∈st.recs,c.who=x→c.waits=false:=by
 intro c hc e
 have hn:st.recs.find? (isWt x)=none:=by simpa [RS.waitRec] using h
 have:=List.find?_eq_none.1 hn c hc
 unfold isWt at this
 rw [show sameW c.who.1 c.who.2.1 c.who.2.2 x.1 x.2.1 x.2.2=true from sameW_t (by rw [← e])] at this
 simpa using this
theorem txOf_some {st:RS} {x:Wh} (h:¬ (st.txOf x).isSome=false):∃ t∈st.txns,t.who=x:=by
 rcases txOf_cases st x with ⟨h1,_⟩ | ⟨m,t,_,_,h2,h3⟩
 ·rw [h1] at h; simp at h
 ·exact ⟨t,List.mem_of_getElem? h2,h3⟩
theorem actT_asking {N:Nat} {st:RS} {x:Stp} (F:st.Fit N) (hp:Proper x) (hc:st.c≤32) (h8:¬ x.op=8) (h7:¬ x.op=7) (h6:¬ x.op=6) (h1:¬ x.op=1) (hw:(st.waitRec x.who).isSome=false) (hl:∃ t∈st.txns,t.who=x.who):Asking N st x:=by
 have ho:x.op=2∨x.op=3∨x.op=4∨x.op=5:=by have:=hp.op; omega
 exact ⟨F,(hp.asks ho).1,hl,waitRec_none hw,(hp.asks ho).2,hc⟩
theorem RS.Fit.actT {N:Nat} {st:RS} {x:Stp} (F:st.Fit N) (hp:Proper x) (hc:st.c≤32) (he:∀ e∈st.ended,e.1≠x.who):(st.actT x).1.Fit (N+1):=by
 have F1:=F.mono (Nat.le_succ N)
 unfold RS.actT
 split
 ·unfold RS.pollT
  split
  ·exact F1
  ·split
   ·exact F1.unready _
   ·exact F1
 ·rename_i h8
  split
  ·exact F1
  ·split
   ·exact (F1.ends _ _ _).againT
   ·rename_i h7
    split
    ·exact F1
    ·rename_i hb
     split
     ·unfold RS.startT
      split
      ·exact F1
      ·rename_i hn
       split
       ·exact F1
       ·refine F.beginT hp.who ?_ he
        rcases txOf_cases st x.who with ⟨_,_,h⟩ | ⟨m,t,h1,_⟩
        ·exact h
        ·rw [h1] at hn; simp at hn
     ·rename_i h1
      split
      ·exact F1
      ·rename_i hl
       split
       ·exact (F1.ends _ _ _).againT
       ·rename_i h6
        exact (actT_asking F hp hc h8 h7 h6 h1 (by
         cases h:(st.waitRec x.who).isSome
         ·rfl
         ·exact absurd (.inl h) hb) (txOf_some hl)).ask
theorem RS.Fit.doT {N:Nat} {st:RS} (F:st.Fit N) (x:Stp) (hc:st.c≤32):(st.doT x).1.Fit (N+1):=by
 unfold RS.doT
 split
 ·exact F.mono (Nat.le_succ N)
 ·rename_i h
  split
  ·exact (F.toldT _).mono (Nat.le_succ N)
  ·exact (F.toldT _).actT (proper_of (by simpa using h)) hc (told_gone F _)
structure ChgD (own:Own) (w w':World) (own':Own):Prop where
 os:w'.os=w.os
 tape:w'.tape=w.tape
 output:w'.output=w.output
 size:w.heap.size≤w'.heap.size
 block:∀ k,k < w.heap.size→own k=none→w'.heap[k]?=w.heap[k]?
 fresh:∀ k,own' k≠none→own k≠none∨w.heap.size≤k
theorem Chg.toD {own own':Own} {w w':World} (h:Chg own w w' own'):ChgD own w w' own':=⟨h.os,h.tape,h.output,h.size,h.block,h.fresh⟩
theorem ChgD.off {own own':Own} {w w':World} (h:ChgD own w w' own') {b:Nat} (hb:own b=.none) (hlt:b < w.heap.size):own' b=.none:=by
 cases hq:own' b with
 | none=>rfl
 | some t =>
  rcases h.fresh b (by rw [hq]; simp) with h1 | h1
  ·exact absurd hb h1
  ·omega
theorem ChgD.trans {own own' own'':Own} {w w' w'':World} (h:ChgD own w w' own') (k:ChgD own' w' w'' own''):ChgD own w w'' own'' where
 os:=k.os.trans h.os
 tape:=k.tape.trans h.tape
 output:=k.output.trans h.output
 size:=Nat.le_trans h.size k.size
 block:=fun b hb hn=>by rw [k.block b (Nat.lt_of_lt_of_le hb h.size) (h.off hn hb),h.block b hb hn]
 fresh:=fun b hb=>by
  rcases k.fresh b hb with h1 | h1
  ·exact h.fresh b h1
  ·exact .inr (Nat.le_trans h.size h1)
structure Closed (I:RS→Prop) (x:Stp):Prop where
 told:∀ st,I st→I (st.toldT x.who)
 unready:∀ st,I st→I (st.unready x.who)
 start:∀ st,I st→properB x=true→I (st.beginT x.who)
 quit:∀ st y b,I st→I (st.ends y b 0)
 dead:∀ st y,I st→I (st.ends y true 2)
 shove:∀ st rc a,I st→a∈st.recs→clrP rc a=true→I (st.ends a.who true 1)
 park:∀ st,I st→properB x=true→x.barred=false→I ((st.addRec (st.askR x).on).setStep x)
 take:∀ st,I st→properB x=true→x.barred=false→I (st.addRec (st.askR x))
 off:∀ st j c,I st→st.recs[j]?=some c→I (st.offAt j c)
 does:∀ st y,I st→I (st.does y).1
 tell:∀ st y a,I st→(a.code=0∨a.code=4)→a.why=0→I (st.tell y a)
theorem does_code (st:RS) (x:Stp):((st.does x).2.code=0∨(st.does x).2.code=4)∧(st.does x).2.why=0:=by
 unfold RS.does
 split
 ·exact ⟨.inl rfl,rfl⟩
 ·unfold RS.job
  split
  ·exact ⟨.inl rfl,rfl⟩
  ·split
   ·split
    ·exact ⟨.inr rfl,rfl⟩
    ·exact ⟨.inl rfl,rfl⟩
   ·exact ⟨.inl rfl,rfl⟩
namespace Closed
variable {I:RS→Prop} {x:Stp}
theorem clearN (C:Closed I x) (rc:Rc):∀ (f:Nat) (st:RS),I st→I (RS.clearN rc f st)
 | 0,st,h=>h
 | f+1,st,h=>by
  unfold RS.clearN
  split
  ·exact h
  ·rename_i a ha
   exact clearN C rc f _ (C.shove st rc a h (List.mem_of_find?_eq_some ha) (List.find?_some ha))
theorem clearT (C:Closed I x) (st:RS) (rc:Rc) (h:I st):I (st.clearT rc):=by
 unfold RS.clearT
 split
 ·exact C.clearN rc _ _ h
 ·exact h
theorem grant (C:Closed I x) (st:RS) (j:Nat) (c:Rc) (h:I st) (hj:st.recs[j]?=some c):I (st.grant j c):=by
 unfold RS.grant RS.granted
 exact C.tell _ _ _ (C.does _ _ (C.clearT _ _ (C.off _ _ _ h hj))) (does_code _ _).1 (does_code _ _).2
theorem againN (C:Closed I x):∀ (f:Nat) (st:RS),I st→I (RS.againN f st)
 | 0,st,h=>h
 | f+1,st,h=>by
  unfold RS.againN
  split
  ·exact h
  ·split
   ·exact h
   ·rename_i hc
    exact againN C f _ (C.grant st _ _ h hc)
theorem againT (C:Closed I x) (st:RS) (h:I st):I st.againT:=C.againN _ _ h
theorem ringsN (C:Closed I x):∀ (f:Nat) (st:RS) (y:Wh),I st→I (RS.ringsN f st y).1
 | 0,st,y,h=>h
 | f+1,st,y,h=>by
  unfold RS.ringsN
  split
  ·exact h
  ·split
   ·exact h
   ·split
    ·exact C.againT _ (C.quit _ _ _ h)
    ·exact ringsN C f _ _ (C.againT _ (C.dead _ _ h))
theorem askT (C:Closed I x) (st:RS) (h:I st) (hp:properB x=true):I (st.askT x).1:=by
 unfold RS.askT
 split
 ·exact h
 ·rename_i hb
  have hb':x.barred=false:=by simpa using hb
  split
  ·exact C.does _ _ h
  ·split
   ·exact h
   ·split
    ·exact C.ringsN _ _ _ (C.park st h hp hb')
    ·exact C.againT _ (C.does _ _ (C.clearT _ _ (C.take st h hp hb')))
theorem actT (C:Closed I x) (st:RS) (h:I st) (hp:properB x=true):I (st.actT x).1:=by
 unfold RS.actT
 split
 ·unfold RS.pollT
  split
  ·exact h
  ·split
   ·exact C.unready _ h
   ·exact h
 ·split
  ·exact h
  ·split
   ·exact C.againT _ (C.quit _ _ _ h)
   ·split
    ·exact h
    ·split
     ·unfold RS.startT
      split
      ·exact h
      ·split
       ·exact h
       ·exact C.start _ h hp
     ·split
      ·exact h
      ·split
       ·exact C.againT _ (C.quit _ _ _ h)
       ·exact C.askT st h hp
theorem doT (C:Closed I x) (st:RS) (h:I st):I (st.doT x).1:=by
 unfold RS.doT
 split
 ·exact h
 ·rename_i hp
  split
  ·exact C.told _ h
  ·exact C.actT _ (C.told _ h) (by simpa using hp)
end Closed
theorem backTo_rest (a:Lab):∀ (l:List (Int × Int)) (st:RS),∃ p,backTo a l st={ st with places:=p }
 | [],st=>⟨st.places,rfl⟩
 | o :: l,st=>by
  obtain ⟨p,hp⟩:=backTo_rest a l (st.setP a o.1 o.2)
  exact ⟨p,by unfold backTo at hp ⊢; rw [List.foldl_cons,hp]; rfl⟩
theorem ends_rest (st:RS) (x:Wh) (b:Bool) (w:Int):st.ends x b w=st∨∃ p,st.ends x b w={ st with places:=p,txns:=st.txns.filter (fun t=>t.who != x),recs:=st.recs.filter (fun c=>c.who != x),ended:=if 0 < w then st.ended++[(x,w)] else st.ended }:=by
 unfold RS.ends
 split
 ·exact .inl rfl
 ·rename_i t _
  right
  cases b with
  | false=>exact ⟨st.places,rfl⟩
  | true =>
   obtain ⟨p,hp⟩:=backTo_rest x.lab t.olds.reverse st
   exact ⟨p,by simp only [if_true,hp]⟩
theorem does_rest (st:RS) (x:Stp):∃ p t,(st.does x).1={ st with places:=p,txns:=t }:=by
 unfold RS.does
 split
 ·exact ⟨_,_,rfl⟩
 ·unfold RS.job
  split
  ·unfold RS.writeT RS.keepOld RS.setP
   split<;>exact ⟨_,_,rfl⟩
  ·split
   ·split
    ·exact ⟨_,_,rfl⟩
    ·unfold RS.putT RS.writeT RS.keepOld RS.setP
     split<;>exact ⟨_,_,rfl⟩
   ·exact ⟨_,_,rfl⟩
theorem closed_cfg (Q:Int→Int→Int→Prop) (x:Stp):Closed (fun st=>Q st.k st.v st.c) x where
 told:=fun _ h=>h
 unready:=fun _ h=>h
 start:=fun _ h _=>h
 quit:=fun st y b h=>by rcases ends_rest st y b 0 with e | ⟨p,e⟩<;>rw [e]<;>exact h
 dead:=fun st y h=>by rcases ends_rest st y true 2 with e | ⟨p,e⟩<;>rw [e]<;>exact h
 shove:=fun st _ a h _ _=>by rcases ends_rest st a.who true 1 with e | ⟨p,e⟩<;>rw [e]<;>exact h
 park:=fun _ h _ _=>h
 take:=fun _ h _ _=>h
 off:=fun _ _ _ h _=>h
 does:=fun st y h=>by obtain ⟨p,t,e⟩:=does_rest st y; rw [e]; exact h
 tell:=fun _ _ _ h _ _=>h
theorem doT_cfg (st:RS) (x:Stp):(st.doT x).1.k=st.k∧(st.doT x).1.v=st.v∧(st.doT x).1.c=st.c :=
 (closed_cfg (fun k v c=>k=st.k∧v=st.v∧c=st.c) x).doT st ⟨rfl,rfl,rfl⟩
theorem valIx_set_ne {a b:Lab} (h:a≠b) (k k' v:Int):∀ l:List Plc,valIx a k (setIx b k' v l)=valIx a k l
 | []=>by simp [setIx,valIx,Ne.symm h]
 | p :: l=>by
  unfold setIx
  split
  ·rename_i hp
   have h1:¬ (p.at_=a∧p.key=k):=fun e=>h (e.1.symm.trans hp.1)
   simp only [valIx]
   rw [if_neg h1,if_neg h1]
  ·simp only [valIx]
   rw [valIx_set_ne h k k' v l]
theorem valIx_set_same (a:Lab) (k v:Int):∀ l:List Plc,valIx a k (setIx a k v l)=v
 | []=>by simp [setIx,valIx]
 | p :: l=>by
  unfold setIx
  split
  ·rename_i hp; simp [valIx,hp.1,hp.2]
  ·rename_i hp; simp only [valIx]; rw [if_neg hp,valIx_set_same a k v l]
theorem valIx_set_key (a:Lab) {k k':Int} (h:k≠k') (v:Int):∀ l:List Plc,valIx a k (setIx a k' v l)=valIx a k l
 | []=>by simp [setIx,valIx,Ne.symm h]
 | p :: l=>by
  unfold setIx
  split
  ·rename_i hp
   have h1:¬ (p.at_=a∧p.key=k):=fun e=>h (e.2.symm.trans hp.2)
   simp only [valIx]
   rw [if_neg h1,if_neg h1]
  ·simp only [valIx]
   rw [valIx_set_key a h v l]
theorem val_backTo_ne {a b:Lab} (h:a≠b) (k:Int):∀ (l:List (Int × Int)) (st:RS),(backTo b l st).val a k=st.val a k
 | [],_=>rfl
 | o :: l,st=>by
  have:=val_backTo_ne h k l (st.setP b o.1 o.2)
  unfold backTo at this ⊢
  rw [List.foldl_cons,this]
  exact valIx_set_ne h k o.1 o.2 st.places
end Go.Proofs.Ytpbcplfpjcacfaa
