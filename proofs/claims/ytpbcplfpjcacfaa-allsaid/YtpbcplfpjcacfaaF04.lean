import Derived.Deep.CutRange
import Derived.Test.YtpbcplfpjcacfaaF03
namespace Go.Proofs.Ytpbcplfpjcacfaa
open Go.RowKit
set_option maxRecDepth 100000
set_option maxHeartbeats 8000000
def RS.free (st:RS) (c:Rc):Bool:=c.waits && !st.hindered c
def RS.better (st:RS) (b:Option Nat) (c:Rc):Bool:=match b with
 | none=>true
 | some j=>match st.recs[j]? with
  | none=>true
  | some d=>aheadB c d
def RS.bestTo (st:RS):Nat→Option Nat
 | 0=>none
 | k+1=>match st.recs[k]? with
  | none=>st.bestTo k
  | some c=>if st.free c && st.better (st.bestTo k) c then some k else st.bestTo k
theorem bestTo_succ {st:RS} {k:Nat} {c:Rc} (h:st.recs[k]?=some c):st.bestTo (k+1)=if st.free c && st.better (st.bestTo k) c then some k else st.bestTo k:=by
 rw [RS.bestTo,h]
theorem bestTo_at {st:RS}:∀ {k j:Nat},st.bestTo k=some j→j < k∧∃ c,st.recs[j]?=some c∧st.free c=true
 | 0,j,h=>by cases h
 | k+1,j,h=>by
  rw [RS.bestTo] at h
  cases hc:st.recs[k]? with
  | none=>rw [hc] at h; obtain ⟨a,b⟩:=bestTo_at h; exact ⟨by omega,b⟩
  | some c =>
   rw [hc] at h
   simp only at h
   split at h
   ·rename_i hb
    cases h
    simp only [Bool.and_eq_true] at hb
    exact ⟨by omega,c,hc,hb.1⟩
   ·obtain ⟨a,b⟩:=bestTo_at h; exact ⟨by omega,b⟩
def Rc.off (c:Rc):Rc:={ c with waits:=false }
def RS.offAt (st:RS) (j:Nat) (c:Rc):RS:={ st with recs:=st.recs.set j c.off }
def RS.does (st:RS) (x:Stp):RS × Ans:=match st.txOf x.who with
 | none=>(st,⟨0,0,[]⟩)
 | some t=>st.job (st.live x.who).toNat t x
def RS.tell (st:RS) (x:Wh) (a:Ans):RS:={ st with txns:=st.txns.map (fun t=>if t.who == x then { t with ready:=true,told:=a } else t) }
def RS.stepOf (st:RS) (x:Wh):Stp:=match st.txOf x with
 | none=>zeroStp
 | some t=>t.step
def RS.granted (st:RS) (j:Nat) (c:Rc):RS:=(st.offAt j c).clearT c.off
def RS.grant (st:RS) (j:Nat) (c:Rc):RS :=
 ((st.granted j c).does ((st.granted j c).stepOf c.who)).1.tell c.who ((st.granted j c).does ((st.granted j c).stepOf c.who)).2
def RS.waitN (st:RS):Nat:=(st.recs.filter (·.waits)).length
def RS.againN:Nat→RS→RS
 | 0,st=>st
 | f+1,st=>match st.bestTo st.recs.length with
  | none=>st
  | some j=>match st.recs[j]? with
   | none=>st
   | some c=>RS.againN f (st.grant j c)
def RS.againT (st:RS):RS:=RS.againN st.waitN st
theorem does_at {st:RS} {x:Stp} {n:Nat} {t:Tx} (hu:st.uniq) (hn:st.txns[n]?=some t) (ht:t.who=x.who):st.does x=st.job n t x:=by
 unfold RS.does
 rw [txOf_at hu hn ht]
 simp only
 rw [live_at hn ht hu]; rfl
theorem tell_at {st:RS} {x:Wh} {n:Nat} {t:Tx} (a:Ans) (hu:st.uniq) (hn:st.txns[n]?=some t) (ht:t.who=x):st.tell x a={ st with txns:=st.txns.set n { t with ready:=true,told:=a } }:=by
 unfold RS.tell
 congr 1
 refine List.ext_getElem? fun m=>?_
 rw [List.getElem?_map]
 by_cases hmn:n=m
 ·subst hmn
  rw [List.getElem?_set_self (List.getElem?_eq_some_iff.1 hn).1,hn]; simp [ht]
 ·rw [List.getElem?_set_ne hmn]
  cases hq:st.txns[m]? with
  | none=>rfl
  | some u =>
   have hw:u.who≠x:=fun e=>hmn (hu n m t u hn hq (by rw [ht,e]))
   simp [hw]
theorem stepOf_at {st:RS} {x:Wh} {n:Nat} {t:Tx} (hu:st.uniq) (hn:st.txns[n]?=some t) (ht:t.who=x):st.stepOf x=t.step:=by
 unfold RS.stepOf; rw [txOf_at hu hn ht]
theorem off_mem {l:List Rc} {j:Nat} {c y:Rc} (h:y∈l.set j c.off):y=c.off∨y∈l:=(List.mem_or_eq_of_mem_set h).symm
theorem off_who {l:List Rc} {j:Nat} {c:Rc} (hj:l[j]?=some c):(l.set j c.off).map (·.who)=l.map (·.who):=by
 rw [List.map_set]
 refine List.ext_getElem? fun m=>?_
 by_cases hmj:j=m
 ·subst hmj
  rw [List.getElem?_set_self (by simpa using (List.getElem?_eq_some_iff.1 hj).1),List.getElem?_map,hj]; rfl
 ·rw [List.getElem?_set_ne hmj]
theorem off_sub {c:Rc}:∀ {l:List Rc} {j:Nat},((l.set j c.off).filter (·.waits)).Sublist (l.filter (·.waits))
 | [],j=>by simp
 | a :: l,0=>by
  rw [List.set_cons_zero,List.filter_cons_of_neg (by simp [Rc.off]),List.filter_cons]
  split
  ·exact List.sublist_cons_self _ _
  ·exact List.Sublist.refl _
 | a :: l,j+1=>by
  rw [List.set_cons_succ,List.filter_cons,List.filter_cons]
  split
  ·exact (off_sub (l:=l) (j:=j)).cons_cons _
  ·exact off_sub
theorem off_lt {c:Rc} (hw:c.waits=true):∀ {l:List Rc} {j:Nat},l[j]?=some c→((l.set j c.off).filter (·.waits)).length < (l.filter (·.waits)).length
 | [],j,h=>by simp at h
 | a :: l,0,h=>by
  simp at h; subst h
  rw [List.set_cons_zero,List.filter_cons_of_neg (by simp [Rc.off]),List.filter_cons_of_pos (by simpa using hw)]; simp
 | a :: l,j+1,h=>by
  have h':l[j]?=some c:=by simpa using h
  have:=off_lt hw h'
  rw [List.set_cons_succ,List.filter_cons,List.filter_cons]
  split
  ·simpa using this
  ·exact this
theorem RS.Fit.offAt {N:Nat} {st:RS} (F:st.Fit N) {j:Nat} {c:Rc} (hj:st.recs[j]?=some c):(st.offAt j c).Fit N:=by
 have hcm:=List.mem_of_getElem? hj
 refine { F with backed:=?_,recAt:=?_,recN:=?_,waits:=?_,waitsU:=?_,puts:=?_ }
 ·intro y hy
  rcases off_mem hy with rfl | h
  ·exact F.backed c hcm
  ·exact F.backed y h
 ·intro y hy
  rcases off_mem hy with rfl | h
  ·exact F.recAt c hcm
  ·exact F.recAt y h
 ·intro a
  have e:∀ l:List Rc,(l.filter (fun c=>labCode c.who.lab == a)).length=((l.map (·.who)).filter (fun x=>labCode x.lab == a)).length:=fun l=>by
   rw [List.filter_map,List.length_map]; rfl
  show ((st.recs.set j c.off).filter _).length≤_
  rw [e,off_who hj,← e]; exact F.recN a
 ·intro y hy hw t ht e
  rcases off_mem hy with rfl | h
  ·cases hw
  ·exact F.waits y h hw t ht e
 ·exact F.waitsU.sublist (off_sub.map _)
 ·intro t ht
  obtain ⟨h1,h2⟩:=F.puts t ht
  refine ⟨h1,fun ⟨y,hy,h3,h4⟩=>?_⟩
  rcases off_mem hy with rfl | h
  ·cases h4
  ·exact h2 ⟨y,h,h3,h4⟩
theorem off_nowait {N:Nat} {st:RS} (F:st.Fit N) {j:Nat} {c:Rc} (hj:st.recs[j]?=some c) (hw:c.waits=true):∀ y∈(st.offAt j c).recs,y.who=c.who→y.waits=false:=by
 intro y hy e
 obtain ⟨m,hm⟩:=List.mem_iff_getElem?.1 hy
 change (st.recs.set j c.off)[m]?=some y at hm
 by_cases hmj:j=m
 ·subst hmj
  rw [List.getElem?_set_self (List.getElem?_eq_some_iff.1 hj).1] at hm
  rw [← Option.some.inj hm]; rfl
 ·rw [List.getElem?_set_ne hmj] at hm
  cases hyw:y.waits with
  | false=>rfl
  | true =>
   exfalso
   have h:=F.waitsU
   unfold List.Nodup at h
   rw [List.pairwise_map,List.pairwise_filter,List.pairwise_iff_getElem] at h
   obtain ⟨a1,a2⟩:=List.getElem?_eq_some_iff.1 hj
   obtain ⟨b1,b2⟩:=List.getElem?_eq_some_iff.1 hm
   rcases Nat.lt_or_ge j m with hlt | hge
   ·exact h j m a1 b1 hlt (by rw [a2]; exact hw) (by rw [b2]; exact hyw) (by rw [a2,b2]; exact e.symm)
   ·exact h m j b1 a1 (by omega) (by rw [b2]; exact hyw) (by rw [a2]; exact hw) (by rw [a2,b2]; exact e)
theorem ends_sub (st:RS) (x:Wh) (back:Bool) (why:Int):(st.ends x back why).recs.Sublist st.recs:=by
 unfold RS.ends
 cases st.txOf x with
 | none=>exact List.Sublist.refl _
 | some t=>exact List.filter_sublist
theorem ends_keep {st:RS} {x:Wh} {back:Bool} {why:Int} {t:Tx} (ht:t∈st.txns) (hx:t.who≠x):t∈(st.ends x back why).txns:=by
 unfold RS.ends
 cases st.txOf x with
 | none=>exact ht
 | some u=>exact List.mem_filter.2 ⟨ht,by simpa using hx⟩
theorem clearN_sub {rc:Rc}:∀ (f:Nat) (st:RS),(RS.clearN rc f st).recs.Sublist st.recs
 | 0,_=>List.Sublist.refl _
 | f+1,st=>by
  unfold RS.clearN
  cases h:st.recs.find? (clrP rc) with
  | none=>exact List.Sublist.refl _
  | some a=>exact (clearN_sub f _).trans (ends_sub _ _ _ _)
theorem clearN_keep {rc:Rc} {t:Tx}:∀ (f:Nat) (st:RS),t∈st.txns→(∀ y∈st.recs,clrP rc y=true→y.who≠t.who)→t∈(RS.clearN rc f st).txns
 | 0,_,h,_=>h
 | f+1,st,h,hc=>by
  unfold RS.clearN
  cases hf:st.recs.find? (clrP rc) with
  | none=>exact h
  | some a =>
   have ha:=List.mem_of_find?_eq_some hf
   have hp:=List.find?_some hf
   exact clearN_keep f _ (ends_keep h (fun e=>hc a ha hp e.symm)) (fun y hy=>hc y ((ends_sub _ _ _ _).mem hy))
theorem clearT_sub (st:RS) (rc:Rc):(st.clearT rc).recs.Sublist st.recs:=by
 unfold RS.clearT; split
 ·exact clearN_sub _ _
 ·exact List.Sublist.refl _
theorem clearT_keep {st:RS} {rc:Rc} {t:Tx} (h:t∈st.txns) (hc:rc.write=true→∀ y∈st.recs,clrP rc y=true→y.who≠t.who):t∈(st.clearT rc).txns:=by
 unfold RS.clearT; split
 ·rename_i hw; exact clearN_keep _ _ h (hc hw)
 ·exact h
structure Granting (N:Nat) (st:RS) (j:Nat) (c:Rc) (n:Nat) (t:Tx):Prop where
 fit:(st.granted j c).Fit N
 at_:(st.granted j c).txns[n]?=some t
 who:t.who=c.who
 mem:t∈st.txns
 asks:t.step.asks c
 puts:t.puts.length+1≤N
 nowait:¬ ∃ y∈(st.granted j c).recs,y.who=t.who∧y.waits=true
 live:(st.granted j c).live c.who=(n:Int)
theorem granting {N:Nat} {st:RS} (F:st.Fit N) {j:Nat} {c:Rc} (hj:st.recs[j]?=some c) (hw:c.waits=true):∃ n t,Granting N st j c n t:=by
 have hcm:=List.mem_of_getElem? hj
 obtain ⟨t,htm,hwho⟩:=F.backed c hcm
 have hask:=F.waits c hcm hw t htm hwho
 have F1:=(F.offAt hj).clearT c.off
 have hkeep:t∈(st.granted j c).txns:=clearT_keep htm (fun hwr y hy hp e=>by
  have hl:c.at_=c.who.lab:=by
   obtain ⟨h1,h2,_,_,_,_,h7⟩:=hask
   rw [← h2,h7 hwr,h1]
  have:sameL y.who.1 y.who.2.1 c.at_.1 c.at_.2=true:=by
   rw [hl,e,hwho]; simp [sameL,Wh.lab]
  unfold clrP at hp
  rw [show c.off.at_=c.at_ from rfl,this] at hp
  simp at hp)
 obtain ⟨n,hn⟩:=List.mem_iff_getElem?.1 hkeep
 refine ⟨n,t,F1,hn,hwho,htm,hask,(F.puts t htm).2 ⟨c,hcm,hwho.symm,hw⟩,?_,live_at hn hwho F1.uniq⟩
 rintro ⟨y,hy,h1,h2⟩
 have:=off_nowait F hj hw y ((clearT_sub _ _).mem hy) (by rw [h1,hwho])
 rw [h2] at this; cases this
theorem Granting.grant {N:Nat} {st:RS} {j:Nat} {c:Rc} {n:Nat} {t:Tx} (G:Granting N st j c n t) :
  ∃ u,((st.granted j c).job n t t.step).1.txns[n]?=some u∧u.who=c.who∧st.grant j c={ ((st.granted j c).job n t t.step).1 with txns:=((st.granted j c).job n t t.step).1.txns.set n { u with ready:=true,told:=((st.granted j c).job n t t.step).2 } }:=by
 have hs:(st.granted j c).stepOf c.who=t.step:=stepOf_at G.fit.uniq G.at_ G.who
 have hd:(st.granted j c).does t.step=(st.granted j c).job n t t.step:=does_at G.fit.uniq G.at_ (by rw [G.who,G.asks.1])
 have FJ:=G.fit.job G.at_ G.asks.2.2.1 G.puts G.nowait
 obtain ⟨u,hu,hw,_⟩:=job_at (x:=t.step) G.at_
 have hun:((st.granted j c).job n t t.step).1.txns[n]?=some u:=by
  rw [hu,List.getElem?_set_self (List.getElem?_eq_some_iff.1 G.at_).1]
 refine ⟨u,hun,by rw [hw,G.who],?_⟩
 unfold RS.grant
 rw [hs,hd]
 exact tell_at _ FJ.uniq hun (by rw [hw,G.who])
theorem RS.Fit.told {N:Nat} {st:RS} (F:st.Fit N) {n:Nat} {t:Tx} (hn:st.txns[n]?=some t) (b:Bool) (a:Ans):({ st with txns:=st.txns.set n { t with ready:=b,told:=a } }:RS).Fit N:=by
 have htm:=List.mem_of_getElem? hn
 exact F.setTxn hn (u:={ t with ready:=b,told:=a }) rfl (F.olds t htm) (F.oldsN t htm) (fun c hc hw e=>F.waits c hc hw t htm e) (F.puts t htm)
theorem RS.Fit.grant {N:Nat} {st:RS} (F:st.Fit N) {j:Nat} {c:Rc} (hj:st.recs[j]?=some c) (hw:c.waits=true):(st.grant j c).Fit N:=by
 obtain ⟨n,t,G⟩:=granting F hj hw
 obtain ⟨u,hu,_,e⟩:=G.grant
 rw [e]
 exact (G.fit.job G.at_ G.asks.2.2.1 G.puts G.nowait).told hu true _
theorem grant_waitN {N:Nat} {st:RS} (F:st.Fit N) {j:Nat} {c:Rc} (hj:st.recs[j]?=some c) (hw:c.waits=true):(st.grant j c).waitN < st.waitN:=by
 obtain ⟨n,t,G⟩:=granting F hj hw
 obtain ⟨u,hu,_,e⟩:=G.grant
 unfold RS.waitN
 rw [e]
 show (((st.granted j c).job n t t.step).1.recs.filter (·.waits)).length < _
 rw [(job_same _ _ _ _).1]
 exact Nat.lt_of_le_of_lt (((clearT_sub (st.offAt j c) c.off).filter _).length_le) (off_lt hw hj)
theorem free_waits {st:RS} {c:Rc} (h:st.free c=true):c.waits=true:=by
 unfold RS.free at h; simp only [Bool.and_eq_true] at h; exact h.1
theorem best_cases (st:RS):st.bestTo st.recs.length=none∨∃ j c,st.bestTo st.recs.length=some j∧st.recs[j]?=some c∧st.free c=true:=by
 cases h:st.bestTo st.recs.length with
 | none=>exact .inl rfl
 | some j =>
  obtain ⟨_,c,hc,hf⟩:=bestTo_at h
  exact .inr ⟨j,c,rfl,hc,hf⟩
theorem againN_none {st:RS} (h:st.bestTo st.recs.length=none):∀ f,RS.againN f st=st
 | 0=>rfl
 | f+1=>by unfold RS.againN; rw [h]
theorem againN_step {st:RS} {j:Nat} {c:Rc} (h:st.bestTo st.recs.length=some j) (hj:st.recs[j]?=some c) (f:Nat):RS.againN (f+1) st=RS.againN f (st.grant j c):=by
 rw [RS.againN,h]; simp only; rw [hj]
theorem waitN_pos {st:RS} {j:Nat} {c:Rc} (hj:st.recs[j]?=some c) (hw:c.waits=true):0 < st.waitN:=by
 unfold RS.waitN
 exact List.length_pos_of_mem (List.mem_filter.2 ⟨List.mem_of_getElem? hj,hw⟩)
theorem againN_more {N:Nat}:∀ (f g:Nat) (st:RS),st.Fit N→st.waitN≤f→st.waitN≤g→RS.againN f st=RS.againN g st:=by
 intro f
 induction f with
 | zero =>
  intro g st F hf hg
  rcases best_cases st with h | ⟨j,c,h,hj,hfr⟩
  ·rw [againN_none h,againN_none h]
  ·have:=waitN_pos hj (free_waits hfr); omega
 | succ f ih =>
  intro g st F hf hg
  rcases best_cases st with h | ⟨j,c,h,hj,hfr⟩
  ·rw [againN_none h,againN_none h]
  ·have hlt:=grant_waitN F hj (free_waits hfr)
   match g,hg with
   | 0,hg=>omega
   | g+1,hg =>
    rw [againN_step h hj,againN_step h hj]
    exact ih g _ (F.grant hj (free_waits hfr)) (by omega) (by omega)
theorem againN_fit {N:Nat}:∀ (f:Nat) (st:RS),st.Fit N→(RS.againN f st).Fit N
 | 0,_,F=>F
 | f+1,st,F=>by
  rcases best_cases st with h | ⟨j,c,h,hj,hfr⟩
  ·rw [againN_none h]; exact F
  ·rw [againN_step h hj]; exact againN_fit f _ (F.grant hj (free_waits hfr))
theorem RS.Fit.againT {N:Nat} {st:RS} (F:st.Fit N):st.againT.Fit N:=againN_fit _ _ F
theorem againT_step {N:Nat} {st:RS} (F:st.Fit N) {j:Nat} {c:Rc} (h:st.bestTo st.recs.length=some j) (hj:st.recs[j]?=some c) (hf:st.free c=true):st.againT=(st.grant j c).againT:=by
 unfold RS.againT
 have hlt:=grant_waitN F hj (free_waits hf)
 obtain ⟨m,hm⟩:∃ m,st.waitN=m+1:=⟨st.waitN - 1,by omega⟩
 rw [hm,againN_step h hj]
 exact againN_more _ _ _ (F.grant hj (free_waits hf)) (by omega) (Nat.le_refl _)
theorem ownsRow_slice {w:World} {B e size n:Nat} {v:Value} {xs:List Value} (h:w.ownsRow B e size v n xs):∃ ao cap,v=.slice ao n cap:=by
 obtain ⟨_,ho⟩:=h
 rcases ho with ⟨h,hn⟩ | ⟨b,c,d,e1,_⟩
 ·exact ⟨_,_,by rw [h,hn]⟩
 ·exact ⟨_,_,e1⟩
theorem ends_len (st:RS) (x:Wh) (back:Bool) (why:Int):(st.ends x back why).txns.length≤st.txns.length:=by
 unfold RS.ends
 cases st.txOf x with
 | none=>exact Nat.le_refl _
 | some t=>exact List.length_filter_le _ _
theorem ends_len_lt {st:RS} {x:Wh} (h:∃ t∈st.txns,t.who=x) (back:Bool) (why:Int):(st.ends x back why).txns.length < st.txns.length:=by
 obtain ⟨t,ht,e⟩:=h
 unfold RS.ends
 cases hq:st.txOf x with
 | none=>exact absurd (List.find?_eq_none.1 hq t ht) (by simp [e])
 | some u=>exact List.length_filter_lt_length_iff_exists.2 ⟨t,ht,by simp [e]⟩
theorem clearN_len {rc:Rc}:∀ (f:Nat) (st:RS),(RS.clearN rc f st).txns.length≤st.txns.length
 | 0,_=>Nat.le_refl _
 | f+1,st=>by
  unfold RS.clearN
  cases st.recs.find? (clrP rc) with
  | none=>exact Nat.le_refl _
  | some a=>exact Nat.le_trans (clearN_len f _) (ends_len _ _ _ _)
theorem clearT_len (st:RS) (rc:Rc):(st.clearT rc).txns.length≤st.txns.length:=by
 unfold RS.clearT; split
 ·exact clearN_len _ _
 ·exact Nat.le_refl _
theorem job_len (st:RS) (n:Nat) (t:Tx) (x:Stp):(st.job n t x).1.txns.length=st.txns.length:=by
 have hk:∀ key,(st.keepOld n t key).txns.length=st.txns.length:=fun key=>by unfold RS.keepOld; split<;>simp
 have hw:∀ key v,(st.writeT n t key v).txns.length=st.txns.length:=fun key v=>hk key
 unfold RS.job
 split
 ·exact hw _ _
 ·split
  ·split
   ·rfl
   ·unfold RS.putT; simp [hw]
  ·rfl
theorem grant_len (st:RS) (j:Nat) (c:Rc):(st.grant j c).txns.length≤st.txns.length:=by
 unfold RS.grant RS.tell
 rw [List.length_map]
 have hd:∀ (s:RS) (x:Stp),(s.does x).1.txns.length=s.txns.length:=fun s x=>by
  unfold RS.does
  cases s.txOf x.who with
  | none=>rfl
  | some t=>exact job_len _ _ _ _
 rw [hd]
 exact clearT_len _ _
theorem againN_len:∀ (f:Nat) (st:RS),(RS.againN f st).txns.length≤st.txns.length
 | 0,_=>Nat.le_refl _
 | f+1,st=>by
  rcases best_cases st with h | ⟨j,c,h,hj,hfr⟩
  ·rw [againN_none h]; exact Nat.le_refl _
  ·rw [againN_step h hj]; exact Nat.le_trans (againN_len f _) (grant_len _ _ _)
theorem againT_len (st:RS):st.againT.txns.length≤st.txns.length:=againN_len _ _
theorem liveIx_cases (x:Wh):∀ (l:List Tx) (k:Nat),(liveIx x l k=-1∧∀ t∈l,t.who≠x)∨∃ (m:Nat) (t:Tx),liveIx x l k=((k+m:Nat):Int)∧l[m]?=some t∧t.who=x
 | [],k=>.inl ⟨rfl,by simp⟩
 | a :: l,k=>by
  rw [liveIx]
  by_cases h:a.who=x
  ·exact .inr ⟨0,a,by rw [if_pos h]; simp,rfl,h⟩
  ·rw [if_neg h]
   rcases liveIx_cases x l (k+1) with ⟨h1,h2⟩ | ⟨m,t,h1,h2,h3⟩
   ·exact .inl ⟨h1,fun t ht=>by rcases List.mem_cons.1 ht with rfl | ht; exact h; exact h2 t ht⟩
   ·exact .inr ⟨m+1,t,by rw [h1]; congr 1; omega,by simpa using h2,h3⟩
theorem live_cases (st:RS) (x:Wh):(st.live x=-1∧∀ t∈st.txns,t.who≠x)∨∃ (m:Nat) (t:Tx),st.live x=(m:Int)∧st.txns[m]?=some t∧t.who=x:=by
 rcases liveIx_cases x st.txns 0 with h | ⟨m,t,h1,h2,h3⟩
 ·exact .inl h
 ·exact .inr ⟨m,t,by unfold RS.live; rw [h1]; simp,h2,h3⟩
def RS.nthAt (st:RS) (i:Nat):Int:=match st.txns[i]? with
 | none=>0
 | some t=>t.nth
def RS.inRing (st:RS) (x m:Wh):Bool:=decide (0≤st.live m) && (st.leads 4 x m && st.leads 4 m x)
def RS.younger (st:RS) (b:Option Nat) (i:Nat):Bool:=match b with
 | none=>true
 | some j=>decide (st.nthAt j < st.nthAt i)
def RS.ringTo (st:RS) (x:Wh):Nat→Option Nat
 | 0=>none
 | n+1=>if st.inRing x (x.1,x.2.1,(n:Int)) && st.younger (RS.ringTo st x n) (st.live (x.1,x.2.1,(n:Int))).toNat then some (st.live (x.1,x.2.1,(n:Int))).toNat else RS.ringTo st x n
theorem ringTo_at {st:RS} {x:Wh}:∀ {k j:Nat},st.ringTo x k=some j→∃ t,st.txns[j]?=some t∧t.who.lab=x.lab
 | 0,j,h=>by cases h
 | k+1,j,h=>by
  rw [RS.ringTo] at h
  split at h
  ·rename_i hb
   cases h
   simp only [RS.inRing,Bool.and_eq_true,decide_eq_true_eq] at hb
   rcases live_cases st (x.1,x.2.1,(k:Int)) with ⟨h1,_⟩ | ⟨m,t,h1,h2,h3⟩
   ·omega
   ·rw [h1]; exact ⟨t,h2,by rw [h3]; rfl⟩
  ·exact ringTo_at h
def RS.ringsN:Nat→RS→Wh→RS × Ans
 | 0,st,_=>(st,⟨1,0,[]⟩)
 | f+1,st,x=>match st.ringTo x 4 with
  | none=>(st,⟨1,0,[]⟩)
  | some b=>match st.txns[b]? with
   | none=>(st,⟨1,0,[]⟩)
   | some t=>if t.who=x then ((st.ends t.who true 0).againT,⟨2,2,[]⟩) else RS.ringsN f (st.ends t.who true 2).againT x
def RS.ringsT (st:RS) (x:Wh):RS × Ans:=RS.ringsN st.txns.length st x
theorem ringsN_none {st:RS} {x:Wh} (h:st.ringTo x 4=none):∀ f,RS.ringsN f st x=(st,⟨1,0,[]⟩)
 | 0=>rfl
 | f+1=>by rw [RS.ringsN,h]
theorem ringsN_some {st:RS} {x:Wh} {b:Nat} {t:Tx} (h:st.ringTo x 4=some b) (hb:st.txns[b]?=some t) (f:Nat) :
  RS.ringsN (f+1) st x=if t.who=x then ((st.ends t.who true 0).againT,⟨2,2,[]⟩) else RS.ringsN f (st.ends t.who true 2).againT x:=by
 rw [RS.ringsN,h]; simp only; rw [hb]
theorem ring_lt {st:RS} {b:Nat} {t:Tx} (hb:st.txns[b]?=some t):(st.ends t.who true 2).againT.txns.length < st.txns.length :=
 Nat.lt_of_le_of_lt (againT_len _) (ends_len_lt ⟨t,List.mem_of_getElem? hb,rfl⟩ _ _)
theorem ringsN_more:∀ (f g:Nat) (st:RS) (x:Wh),st.txns.length≤f→st.txns.length≤g→RS.ringsN f st x=RS.ringsN g st x:=by
 intro f
 induction f with
 | zero =>
  intro g st x hf hg
  cases h:st.ringTo x 4 with
  | none=>rw [ringsN_none h,ringsN_none h]
  | some b =>
   obtain ⟨t,hb,_⟩:=ringTo_at h
   have:=(List.getElem?_eq_some_iff.1 hb).1; omega
 | succ f ih =>
  intro g st x hf hg
  cases h:st.ringTo x 4 with
  | none=>rw [ringsN_none h,ringsN_none h]
  | some b =>
   obtain ⟨t,hb,_⟩:=ringTo_at h
   have hlt:=ring_lt hb
   match g,hg with
   | 0,hg=>have:=(List.getElem?_eq_some_iff.1 hb).1; omega
   | g+1,hg =>
    rw [ringsN_some h hb,ringsN_some h hb]
    split
    ·rfl
    ·exact ih g _ x (by omega) (by omega)
theorem ringsT_none {st:RS} {x:Wh} (h:st.ringTo x 4=none):st.ringsT x=(st,⟨1,0,[]⟩):=ringsN_none h _
theorem ringsT_self {st:RS} {x:Wh} {b:Nat} {t:Tx} (h:st.ringTo x 4=some b) (hb:st.txns[b]?=some t) (hx:t.who=x):st.ringsT x=((st.ends t.who true 0).againT,⟨2,2,[]⟩):=by
 unfold RS.ringsT
 obtain ⟨m,hm⟩:∃ m,st.txns.length=m+1:=⟨st.txns.length - 1,by have:=(List.getElem?_eq_some_iff.1 hb).1; omega⟩
 rw [hm,ringsN_some h hb,if_pos hx]
theorem ringsT_other {st:RS} {x:Wh} {b:Nat} {t:Tx} (h:st.ringTo x 4=some b) (hb:st.txns[b]?=some t) (hx:¬ t.who=x):st.ringsT x=(st.ends t.who true 2).againT.ringsT x:=by
 unfold RS.ringsT
 have hlt:=ring_lt hb
 obtain ⟨m,hm⟩:∃ m,st.txns.length=m+1:=⟨st.txns.length - 1,by omega⟩
 rw [hm,ringsN_some h hb,if_neg hx]
 exact ringsN_more _ _ _ _ (by omega) (Nat.le_refl _)
theorem ringsN_fit {N:Nat}:∀ (f:Nat) (st:RS) (x:Wh),st.Fit N→(RS.ringsN f st x).1.Fit N
 | 0,_,_,F=>F
 | f+1,st,x,F=>by
  cases h:st.ringTo x 4 with
  | none=>rw [ringsN_none h]; exact F
  | some b =>
   obtain ⟨t,hb,_⟩:=ringTo_at h
   rw [ringsN_some h hb]
   split
   ·exact (F.ends _ _ _).againT
   ·exact ringsN_fit f _ x ((F.ends _ _ _).againT)
theorem RS.Fit.ringsT {N:Nat} {st:RS} (F:st.Fit N) (x:Wh):(st.ringsT x).1.Fit N:=ringsN_fit _ _ _ F
end Go.Proofs.Ytpbcplfpjcacfaa
