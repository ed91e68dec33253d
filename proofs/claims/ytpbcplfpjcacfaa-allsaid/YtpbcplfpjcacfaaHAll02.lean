import Derived.Test.YtpbcplfpjcacfaaHAll01
namespace Go.Proofs.Ytpbcplfpjcacfaa
open Go.RowKit
set_option maxRecDepth 100000
set_option maxHeartbeats 8000000
theorem WMem.added {w1 W w2:World} {g bb:Nat} {bsv bsv' outv:Value} {bl:List Nat} {outs:List Value} {own:Own} (m:WMem w1 g bsv outv bl outs own)
  (hW:Below w1.heap.size w1 W) (htw:TwoWay W bsv w2 bsv') (hrow:w2.ownsRow 0 37 1 bsv' (bl.length+1) (bl.flatMap ptrC++[.pointer (some ⟨bb,0,none⟩)])) :
  ∃ own',WMem (w2.setCell ⟨g,0,none⟩ bsv') g bsv' outv (bl++[bb]) outs own'∧ChgD own w1 (w2.setCell ⟨g,0,none⟩ bsv') own'∧∀ q t,own q=some t→own' q=some t:=by
 have hgl:=m.old g (by rw [m.tag]; simp)
 have hnew:bsv'.ownBlock=bsv.ownBlock∨bsv'.ownBlock=some W.heap.size:=by
  rcases htw with ⟨q,h1,h2,_⟩ | ⟨h1,_⟩
  ·exact .inl (h2.trans h1.symm)
  ·exact .inr h1
 have hsz:=htw.size
 have hmisc:w2.os=W.os∧w2.tape=W.tape∧w2.output=W.output:=by
  rcases htw with ⟨q',h1,h2,h3⟩ | ⟨h1,h3⟩
  ·exact ⟨h3.os,h3.tape,h3.output⟩
  ·exact ⟨h3.os,h3.tape,h3.output⟩
 have hob:∀ q,bsv.ownBlock=some q→own q=some (2,0,0,0):=m.bs.2
 have hx:∀ q t,own q=some t→ownNew own bsv' (2,0,0,0) q=some t:=fun q t hq=>by
  unfold ownNew
  split
  ·rename_i e
   rcases hnew with h | h
   ·rw [h] at e
    have:=hob q e
    rw [hq] at this; exact this.symm
   ·rw [h] at e
    have e':W.heap.size=q:=Option.some.inj e
    have h1:=m.old q (by rw [hq]; simp)
    have h2:=hW.size
    omega
  ·exact hq
 have hgb:bsv'.ownBlock≠some g:=fun e=>by
  rcases hnew with h | h
  ·rw [h] at e
   have:=hob g e
   rw [m.tag] at this; cases this
  ·rw [h] at e
   have e':W.heap.size=g:=Option.some.inj e
   have:=hW.size
   omega
 have hkeep:∀ q,own q≠none→q≠g→some q≠bsv.ownBlock→(w2.setCell ⟨g,0,none⟩ bsv').heap[q]?=w1.heap[q]?:=fun q hq hqg hne=>by
  have hl:=m.old q hq
  rw [heap_setCell_ne _ _ _ _ _ hqg,htw.block (by have:=hW.size; omega) hne,hW.block q hl]
 have hng:some g≠bsv.ownBlock:=fun e=>by
  have:=hob g e.symm
  rw [m.tag] at this; cases this
 have hn2:∀ q t,own q=some t→t≠(2,0,0,0)→some q≠bsv.ownBlock:=fun q t hq ht e=>by
  have:=hob q e.symm
  rw [hq] at this; exact ht (Option.some.inj this)
 have hn1:∀ q t,own q=some t→t≠(1,0,0,0)→q≠g:=fun q t hq ht e=>by
  rw [e,m.tag] at hq; exact ht (Option.some.inj hq).symm
 have hroot2:w2.heap[g]?=some (.cells #[bsv,outv] 54 (0,0)):=by
  rw [htw.block (by have:=hW.size; omega) hng,hW.block g hgl]; exact m.root
 have hroot3:=heap_setCell_same w2 g 0 _ _ bsv' hroot2
 have hbl:∀ q,bsv'.ownBlock=some q→q < w2.heap.size:=ownsRow_lt hrow
 refine ⟨ownNew own bsv' (2,0,0,0),⟨?_,hx _ _ m.tag,⟨?_,fun q hq=>by unfold ownNew; rw [if_pos hq]⟩,?_,fun j v hj=>?_,fun q hq=>?_⟩,⟨?_,?_,?_,?_,fun q hq hn=>?_,fun q hq=>?_⟩,hx⟩
 ·simpa using hroot3
 ·rw [List.length_append,List.flatMap_append]
  have:=ownsRow_frame hrow (w':=w2.setCell ⟨g,0,none⟩ bsv') (fun q hq=>heap_setCell_ne _ _ _ _ _ (fun e=>hgb (by rw [← e]; exact hq)))
  simpa [ptrC] using this
 ·exact m.orow.frame (fun q hq=>hkeep q (by rw [hq]; simp) (hn1 q _ hq (by intro c; cases c)) (hn2 q _ hq (by intro c; cases c))) (fun q hq=>hx q _ hq)
 ·rcases m.out j v hj with h | ⟨b,off,n,cap,h1,h2,h3⟩
  ·exact .inl h
  ·exact .inr ⟨b,off,n,cap,h1,hx b _ h2,fun i hi=>(World.cell?_of_block (hkeep b (by rw [h2]; simp) (hn1 b _ h2 (by intro c; cases c)) (hn2 b _ h2 (by intro c; cases c)))).trans (h3 i hi)⟩
 ·unfold ownNew at hq
  split at hq
  ·rename_i e
   have:=hbl q e
   simpa using this
  ·have h1:=m.old q hq
   have h2:=hW.size
   simp
   omega
 ·exact hmisc.1.trans hW.os
 ·exact hmisc.2.1.trans hW.tape
 ·exact hmisc.2.2.trans hW.output
 ·have h2:=hW.size
  simp
  omega
 ·have h2:=hW.size
  have hqg:q≠g:=fun e=>by rw [e,m.tag] at hn; cases hn
  have hqo:some q≠bsv.ownBlock:=fun e=>by have:=hob q e.symm; rw [hn] at this; cases this
  rw [heap_setCell_ne _ _ _ _ _ hqg,htw.block (by omega) hqo,hW.block q hq]
 ·have h2:=hW.size
  unfold ownNew at hq
  split at hq
  ·rename_i e
   rcases hnew with h | h
   ·rw [h] at e
    exact .inl (by rw [hob q e]; simp)
   ·rw [h] at e
    have e':W.heap.size=q:=Option.some.inj e
    exact .inr (by omega)
  ·exact .inl hq
structure StD where
 bb:Nat
 p:Nat
 r:Nat
 oP:Own
 oR:Own
 s:PS
 st:RS
def StD.full (d:StD):Own:=fun q=>if q=d.bb then some (1,0,0,0) else d.oP.or d.oR q
theorem StD.full_own {d:StD} {q:Nat} (h:d.oP.or d.oR q≠none):d.full q≠none:=by
 unfold StD.full; split
 ·simp
 ·exact h
theorem StD.full_bb (d:StD):d.full d.bb≠none:=by unfold StD.full; simp
def StD.at_ (d:StD) (N:Nat) (w:World):Prop:=Going thePgm theDoc N w d.bb d.p d.r d.oP d.oR d.s d.st∧POut d.s
theorem StD.at_.frame {d:StD} {N:Nat} {w w':World} (h:d.at_ N w) (hk:∀ q,d.full q≠none→w'.heap[q]?=w.heap[q]?) (hs:w.heap.size≤w'.heap.size):d.at_ N w' :=
 ⟨{ h.1 with both:=h.1.both.frame (fun q hq=>hk q (StD.full_own hq)) (hk _ d.full_bb) hs },h.2⟩
theorem StD.at_.old {d:StD} {N:Nat} {w:World} (h:d.at_ N w):∀ q,d.full q≠none→q < w.heap.size:=fun q hq=>by
 unfold StD.full at hq
 split at hq
 ·rename_i e; subst e; exact (Array.getElem?_eq_some_iff.1 h.1.both.blk).1
 ·exact h.1.both.old q hq
theorem StD.at_.mono {d:StD} {N:Nat} {w:World} (h:d.at_ N w):d.at_ (N+1) w :=
 ⟨⟨h.1.both,thePgm.okMono h.1.ok,theDoc.mono h.1.sim,h.1.fit.mono (Nat.le_succ N),h.1.locks⟩,h.2⟩
def bbs (S:Nat→StD) (m:Nat):List Nat:=(List.range m).map (fun i=>(S i).bb)
theorem bbs_len (S:Nat→StD) (m:Nat):(bbs S m).length=m:=by unfold bbs; simp
theorem bbs_get (S:Nat→StD) {m i:Nat} (h:i < m):(bbs S m)[i]?=some (S i).bb:=by
 unfold bbs
 rw [List.getElem?_map,List.getElem?_range h]; rfl
theorem bbs_more (S:Nat→StD) (m:Nat) (d:StD):bbs (upd S m d) (m+1)=bbs S m++[d.bb]:=by
 unfold bbs
 rw [List.range_succ,List.map_append]
 congr 1
 ·refine List.map_congr_left (fun i hi=>?_)
  rw [upd_ne _ _ (by have:=List.mem_range.1 hi; omega)]
 ·simp [upd_same]
theorem bbs_set (S:Nat→StD) (m k:Nat) (d:StD) (h:d.bb=(S k).bb):bbs (upd S k d) m=bbs S m:=by
 unfold bbs
 refine List.map_congr_left (fun i _=>?_)
 by_cases e:i=k
 ·subst e; rw [upd_same]; exact h
 ·rw [upd_ne _ _ e]
structure AllW (B N g M m:Nat) (S:Nat→StD) (bsv outv:Value) (outs:List Value) (own:Own) (w:World):Prop where
 mem:WMem w g bsv outv (bbs S m) outs own
 len:outs.length=M
 st:∀ i,i < m→(S i).at_ N w
 apart:∀ i,i < m→∀ q,(S i).full q≠none→own q=none
 each:∀ i j,i < m→j < m→i≠j→∀ q,(S i).full q≠none→(S j).full q=none
 bW:∀ q,own q≠none→B≤q
 bS:∀ i,i < m→∀ q,(S i).full q≠none→B≤q
def AllAt (B N g M m:Nat) (w:World):Prop:=∃ S bsv outv outs own,AllW B N g M m S bsv outv outs own w
theorem AllW.below {B N g M m:Nat} {S:Nat→StD} {bsv outv:Value} {outs:List Value} {own:Own} {w w':World} (h:AllW B N g M m S bsv outv outs own w) (hb:Below w.heap.size w w'):AllW B N g M m S bsv outv outs own w' :=
 ⟨h.mem.below hb,h.len,fun i hi=>(h.st i hi).frame (fun q hq=>hb.block q ((h.st i hi).old q hq)) hb.size,h.apart,h.each,h.bW,h.bS⟩
theorem AllW.more {B g M m:Nat} {S:Nat→StD} {bsv bsv' outv:Value} {outs:List Value} {own:Own} {w W w2:World} (h:AllW B 0 g M m S bsv outv outs own w) (hBw:B≤w.heap.size) {k v c:Int} (hm:mayB k v c=true) {w0:World} (hw0:Below w0.heap.size w0 w) (h0:AllW B 0 g M m S bsv outv outs own w0) {bb p r:Nat} {oP oR:Own}
  (hbb:w0.heap.size≤bb) (hat:BothAt thePgm w bb p r (thePgm.start k v c) (st0 k v c) oP oR) (hfr:∀ q,oP.or oR q≠none→w0.heap.size≤q)
  (hW:Below w.heap.size w W) (htw:TwoWay W bsv w2 bsv') (hrow:w2.ownsRow 0 37 1 bsv' (m+1) ((bbs S m).flatMap ptrC++[.pointer (some ⟨bb,0,none⟩)])):AllAt B 0 g M (m+1) (w2.setCell ⟨g,0,none⟩ bsv')∧Below B w (w2.setCell ⟨g,0,none⟩ bsv'):=by
 obtain ⟨own',m',hc,hx⟩:=h.mem.added hW htw (by rw [bbs_len]; exact hrow)
 have hf:∀ q,(StD.mk bb p r oP oR (ps0 k v c) (st0 k v c)).full q≠none→w0.heap.size≤q∧q < w.heap.size:=fun q hq=>by
  unfold StD.full at hq
  split at hq
  ·rename_i e
   have e':q=bb:=e
   rw [e']
   exact ⟨hbb,(Array.getElem?_eq_some_iff.1 hat.blk).1⟩
  ·exact ⟨hfr q hq,hat.old q hq⟩
 have hold:∀ q,own q≠none→q < w0.heap.size:=h0.mem.old
 have hz0:=hw0.size
 have hfo:∀ q,(StD.mk bb p r oP oR (ps0 k v c) (st0 k v c)).full q≠none→own q=none:=fun q hq=>by
  cases e:own q with
  | none=>rfl
  | some t=>have h1:=hold q (by rw [e]; simp); have h2:=(hf q hq).1; omega
 have hkeep:∀ q,q < w.heap.size→own q=none→(w2.setCell ⟨g,0,none⟩ bsv').heap[q]?=w.heap[q]?:=hc.block
 have hoff:∀ q,q < w.heap.size→own q=none→own' q=none:=fun q hq hn=>hc.off hn hq
 have hfull:∀ i,i < m→∀ q,(S i).full q≠none→q < w0.heap.size:=fun i hi=>(h0.st i hi).old
 refine ⟨⟨upd S m ⟨bb,p,r,oP,oR,ps0 k v c,st0 k v c⟩,bsv',outv,outs,own',?_,h.len,fun i hi=>?_,fun i hi q hq=>?_,fun i j hi hj hne q hq=>?_,fun q hq=>?_,fun i hi q hq=>?_⟩,chgD_below hc h.bW hBw⟩
 ·rw [bbs_more]; exact m'
 ·by_cases e:i=m
  ·subst e
   rw [upd_same]
   refine StD.at_.frame (w:=w) ⟨⟨hat,thePgm.okStart hm,theDoc.start hm,Fit0 k v c,(mayB_t hm).2.2.2.2.2⟩,pout0 k v c⟩ (fun q hq=>hkeep q (hf q hq).2 (hfo q hq)) hc.size
  ·rw [upd_ne _ _ e]
   exact (h.st i (by omega)).frame (fun q hq=>hkeep q ((h.st i (by omega)).old q hq) (h.apart i (by omega) q hq)) hc.size
 ·by_cases e:i=m
  ·subst e
   rw [upd_same] at hq
   exact hoff q (hf q hq).2 (hfo q hq)
  ·rw [upd_ne _ _ e] at hq
   exact hoff q ((h.st i (by omega)).old q hq) (h.apart i (by omega) q hq)
 ·by_cases ei:i=m
  ·subst ei
   have hj':j < i:=by omega
   rw [upd_same] at hq
   rw [upd_ne _ _ (fun e=>hne e.symm)]
   cases e:(S j).full q with
   | none=>rfl
   | some t=>have h1:=hfull j hj' q (by rw [e]; simp); have h2:=(hf q hq).1; omega
  ·rw [upd_ne _ _ ei] at hq
   by_cases ej:j=m
   ·subst ej
    rw [upd_same]
    cases e:(StD.mk bb p r oP oR (ps0 k v c) (st0 k v c)).full q with
    | none=>rfl
    | some t=>have h1:=hfull i (by omega) q hq; have h2:=(hf q (by rw [e]; simp)).1; omega
   ·rw [upd_ne _ _ ej]
    exact h.each i j (by omega) (by omega) hne q hq
 ·rcases hc.fresh q hq with g1 | g1
  ·exact h.bW q g1
  ·omega
 ·by_cases e:i=m
  ·subst e
   rw [upd_same] at hq
   have h1:=(hf q hq).1
   have h2:B≤w0.heap.size:=by
    have:=h0.bW g (by rw [h0.mem.tag]; simp)
    have:=hold g (by rw [h0.mem.tag]; simp)
    omega
   omega
  ·rw [upd_ne _ _ e] at hq
   exact h.bS i (by omega) q hq
theorem entry_all {N:Nat} {d:StD} {w:World} (G:d.at_ N w) (hN:N+1 < 4398046511104) (o:Ent) :
  Calls Try.prog 19 #[.pointer (some ⟨d.bb,0,none⟩),.agg (entA o)] w fun e w'=>∃ v,e=.returned (.tuple #[v,.bool true])∧∃ (d':StD) (l:List (Int × Int)),d'.bb=d.bb∧d'.at_ (N+1) w'∧l.length≤16∧w'.ownsRow 0 94 2 v l.length (itemsV l)∧ChgD (d.oP.or d.oR) w w' (d'.oP.or d'.oR)∧∀ b,v.ownBlock=some b→d'.oP.or d'.oR b=none∧(d.oP.or d.oR b≠none∨w.heap.size≤b):=by
 obtain ⟨lk,x⟩:=o
 obtain ⟨bb,p,r,oP,oR,s,st⟩:=d
 obtain ⟨G,hO⟩:=G
 simp only at G hO ⊢
 have hA:Below w.heap.size w (w.alloc (.cells (entA ⟨lk,x⟩) 32)):=(Below.refl _ _).alloc (Nat.le_refl _) _
 have lift:∀ {s':PS} {st':RS} {l:List (Int × Int)} {v:Value} {w':World},EntRes thePgm (oP.or oR) (w.alloc (.cells (entA ⟨lk,x⟩) 32)) bb p r s' st' l v w'→thePgm.Ok (N+1) s'→theDoc.Sim (N+1) s' st'→st'.Fit (N+1)→st'.c≤32→POut s'→l.length≤16 →
   ∃ (d':StD) (l:List (Int × Int)),d'.bb=bb∧d'.at_ (N+1) w'∧l.length≤16∧w'.ownsRow 0 94 2 v l.length (itemsV l)∧ChgD (oP.or oR) w w' (d'.oP.or d'.oR)∧∀ b,v.ownBlock=some b→d'.oP.or d'.oR b=none∧(oP.or oR b≠none∨w.heap.size≤b):=by
  rintro s' st' l v w' ⟨oP',oR',h1,h2,h3,h4⟩ a b c d e f
  refine ⟨⟨bb,p,r,oP',oR',s',st'⟩,l,rfl,⟨⟨h2,a,b,c,d⟩,e⟩,f,h1,(ChgD.of_below hA).trans h3,fun q hq=>⟨(h4 q hq).1,?_⟩⟩
  rcases (h4 q hq).2 with h | h
  ·exact .inl h
  ·exact .inr (Nat.le_trans hA.size h)
 cases lk with
 | true =>
  refine entry_look bb x _ w ?_
  cases hl:labB x.at_.1 x.at_.2 with
  | true =>
   have hlk:=theDoc.look (l:=x.at_.1) (c:=x.at_.2) G.sim G.ok hl
   refine (bothLooked_yes thePgm bb p r s st oP oR x.at_.1 x.at_.2 _ hl (G.both.below hA) G.ok hlk).mono ?_
   rintro e w' ⟨v,rfl,h⟩
   refine ⟨v,rfl,lift h (thePgm.okMono G.ok) (theDoc.mono G.sim) (G.fit.mono (Nat.le_succ N)) G.locks hO ?_⟩
   rw [← hlk]
   exact listTo_len _ _ _ 16
  | false =>
   refine (bothLooked_no thePgm bb p r s st oP oR x.at_.1 x.at_.2 _ hl (G.both.below hA) G.ok).mono ?_
   rintro e w' ⟨v,rfl,h⟩
   exact ⟨v,rfl,lift h (thePgm.okMono G.ok) (theDoc.mono G.sim) (G.fit.mono (Nat.le_succ N)) G.locks hO (by simp)⟩
 | false =>
  refine entry_step bb x _ w ?_
  have ha:=theDoc.ans x G.sim G.ok
  refine (done_any thePgm bb p r s st oP oR x _ (G.both.below hA) G.ok G.fit G.locks hN ha).mono ?_
  rintro e w' ⟨v,rfl,h⟩
  refine ⟨v,rfl,lift h (thePgm.okAct x G.ok) (theDoc.step x G.sim G.ok) (G.fit.doT x G.locks) (by rw [(doT_cfg st x).2.2]; exact G.locks) (hO.doT x).1 ?_⟩
  rw [← ha]
  exact (hO.doT x).2
end Go.Proofs.Ytpbcplfpjcacfaa
namespace Go.Proofs.Ytpbcplfpjcacfaa
open Go.RowKit
attribute [local go_sem ↓] Go.wp_at_zero Go.wp_at_succ
set_option maxRecDepth 100000
set_option maxHeartbeats 8000000
def AllMid (B N g M m:Nat) (bsv v:Value) (w:World):Prop:=∃ S outv outs own l,AllW B N g M m S bsv outv outs own w∧ListAt w outs own v l.length (itemsV l)∧(∀ b,v.ownBlock=some b→EndsBy outs b 0)∧l.length≤16
theorem AllW.entered {B N g M m k:Nat} {S:Nat→StD} {bsv outv:Value} {outs:List Value} {own:Own} {w:World} (h:AllW B N g M m S bsv outv outs own w) (hk:k < m) (hBw:B≤w.heap.size) (hN:N+1 < 4398046511104) (o:Ent) :
  Calls Try.prog 19 #[.pointer (some ⟨(S k).bb,0,none⟩),.agg (entA o)] w fun e w'=>∃ v,e=.returned (.tuple #[v,.bool true])∧AllMid B (N+1) g M m bsv v w'∧Below B w w'∧∀ q,own q≠none→w'.heap[q]?=w.heap[q]?:=by
 refine (entry_all (h.st k hk) hN o).mono ?_
 rintro e w' ⟨v,rfl,d',l,hbb,hd,hl,hrow,hc,hv⟩
 have hdo:∀ q,(S k).oP.or (S k).oR q≠none→own q=none:=fun q hq=>h.apart k hk q (StD.full_own hq)
 have hwo:∀ q,own q≠none→(S k).oP.or (S k).oR q=none:=fun q hq=>by
  cases e:(S k).oP.or (S k).oR q with
  | none=>rfl
  | some t=>exact absurd (hdo q (by rw [e]; simp)) hq
 have hnew:∀ q,w.heap.size≤q→own q=none:=fun q hq=>by
  cases e:own q with
  | none=>rfl
  | some t=>have:=h.mem.old q (by rw [e]; simp); omega
 have hbbn:(S k).oP.or (S k).oR (S k).bb=none:=Own.or_none.2 ⟨(h.st k hk).1.both.np,(h.st k hk).1.both.nr⟩
 have hbbl:(S k).bb < w.heap.size:=(h.st k hk).old _ (S k).full_bb
 have hbd:∀ q,(S k).oP.or (S k).oR q≠none→B≤q:=fun q hq=>h.bS k hk q (StD.full_own hq)
 have hkeep:∀ q,own q≠none→w'.heap[q]?=w.heap[q]?:=fun q hq=>hc.block q (h.mem.old q hq) (hwo q hq)
 have hvn:∀ b,v.ownBlock=some b→own b=none∧B≤b∧b≠(S k).bb:=fun b hb=>by
  rcases (hv b hb).2 with g1 | g1
  ·exact ⟨hdo b g1,hbd b g1,fun e=>by rw [e] at g1; exact g1 hbbn⟩
  ·exact ⟨hnew b g1,by omega,by omega⟩
 have hx:∀ q t,own q=some t→ownNew own v (9,0,0,0) q=some t:=fun q t hq=>by
  unfold ownNew
  split
  ·rename_i e; rw [(hvn q e).1] at hq; cases hq
  ·exact hq
 have m1:=h.mem.frame hkeep hc.size
 have m2:=m1.ext hx (fun q hq=>by
  unfold ownNew at hq
  split at hq
  ·rename_i e; exact ownsRow_lt hrow q e
  ·exact m1.old q hq)
 have hfn:∀ q,d'.full q≠none→((S k).full q≠none∨w.heap.size≤q)∧v.ownBlock≠some q:=fun q hq=>by
  unfold StD.full at hq
  split at hq
  ·rename_i e
   rw [e,hbb]
   exact ⟨.inl (S k).full_bb,fun e2=>(hvn _ e2).2.2 rfl⟩
  ·refine ⟨?_,fun e2=>hq (hv q e2).1⟩
   rcases hc.fresh q hq with g1 | g1
   ·exact .inl (StD.full_own g1)
   ·exact .inr g1
 have hother:∀ i,i < m→i≠k→∀ q,(S i).full q≠none→(S k).full q=none∧v.ownBlock≠some q:=fun i hi hne q hq=>by
  have g0:=h.each i k hi hk hne q hq
  refine ⟨g0,fun e=>?_⟩
  rcases (hv q e).2 with g1 | g1
  ·exact StD.full_own g1 g0
  ·have:=(h.st i hi).old q hq
   omega
 refine ⟨v,rfl,⟨upd S k d',outv,outs,ownNew own v (9,0,0,0),l,⟨?_,h.len,fun i hi=>?_,fun i hi q hq=>?_,fun i j hi hj hne q hq=>?_,fun q hq=>?_,fun i hi q hq=>?_⟩,⟨hrow,fun b hb=>by unfold ownNew; rw [if_pos hb],fun b hb=>?_⟩,fun b hb=>?_,hl⟩,chgD_below hc hbd hBw,hkeep⟩
 ·rw [bbs_set S m k d' hbb]; exact m2
 ·by_cases e:i=k
  ·subst e; rw [upd_same]; exact hd
  ·rw [upd_ne _ _ e]
   refine ((h.st i hi).frame (fun q hq=>hc.block q ((h.st i hi).old q hq) ?_) hc.size).mono
   have g0:=(hother i hi e q hq).1
   cases e2:(S k).oP.or (S k).oR q with
   | none=>rfl
   | some t=>exact absurd g0 (StD.full_own (by rw [e2]; simp))
 ·by_cases e:i=k
  ·subst e
   rw [upd_same] at hq
   obtain ⟨g1,g2⟩:=hfn q hq
   unfold ownNew
   rw [if_neg g2]
   rcases g1 with g1 | g1
   ·exact h.apart i hi q g1
   ·exact hnew q g1
  ·rw [upd_ne _ _ e] at hq
   unfold ownNew
   rw [if_neg (hother i hi e q hq).2]
   exact h.apart i hi q hq
 ·by_cases ei:i=k
  ·subst ei
   rw [upd_same] at hq
   rw [upd_ne _ _ (fun e=>hne e.symm)]
   rcases (hfn q hq).1 with g1 | g1
   ·exact h.each i j hi hj hne q g1
   ·cases e:(S j).full q with
    | none=>rfl
    | some t=>have:=(h.st j hj).old q (by rw [e]; simp); omega
  ·rw [upd_ne _ _ ei] at hq
   by_cases ej:j=k
   ·subst ej
    rw [upd_same]
    cases e:d'.full q with
    | none=>rfl
    | some t =>
     rcases (hfn q (by rw [e]; simp)).1 with g1 | g1
     ·exact absurd (h.each i j hi hj hne q hq) g1
     ·have:=(h.st i hi).old q hq; omega
   ·rw [upd_ne _ _ ej]
    exact h.each i j hi hj hne q hq
 ·unfold ownNew at hq
  split at hq
  ·rename_i e; exact (hvn q e).2.1
  ·exact h.bW q hq
 ·by_cases e:i=k
  ·subst e
   rw [upd_same] at hq
   rcases (hfn q hq).1 with g1 | g1
   ·exact h.bS i hi q g1
   ·omega
  ·rw [upd_ne _ _ e] at hq
   exact h.bS i hi q hq
 ·intro j u hj off n cap hu
  rcases h.mem.out j u hj with g0 | ⟨b',off',n',cap',e1,e2,_⟩
  ·rw [g0] at hu; cases hu
  ·rw [e1.1] at hu
   injection hu with hu1
   injection hu1 with hu1
   injection hu1 with hu1
   rw [hu1,(hvn b hb).1] at e2
   cases e2
 ·intro j u hj off n cap hu
  rcases h.mem.out j u hj with g0 | ⟨b',off',n',cap',e1,e2,_⟩
  ·rw [g0] at hu; cases hu
  ·rw [e1.1] at hu
   injection hu with hu1
   injection hu1 with hu1
   injection hu1 with hu1
   rw [hu1,(hvn b hb).1] at e2
   cases e2
theorem AllMid.mined {B N g M m:Nat} {bsv v:Value} {w:World} (h:AllMid B N g M m bsv v w) (hBw:B≤w.heap.size) (hM:M+10 < 8000000000000) :
  Calls Try.prog 21 #[.pointer (some ⟨g,0,none⟩),v] w fun e w'=>e=.returned (.tuple #[])∧AllAt B N g (M+4) m w'∧Below B w w':=by
 obtain ⟨S,outv,outs,own,l,h1,h2,h3,h4⟩:=h
 refine (mine_any g l.length bsv outv v (bbs S m) outs (itemsV l) own w h1.mem h2 h3 h4 (by rw [h1.len]; exact hM)).mono ?_
 rintro e w' ⟨rfl,N',mv,outv',outs',own',xs,m',hl',_,hc,hx⟩
 refine ⟨rfl,⟨S,bsv,outv',outs',own',m',by rw [hl',h1.len],fun i hi=>(h1.st i hi).frame (fun q hq=>hc.block q ((h1.st i hi).old q hq) (h1.apart i hi q hq)) hc.size,fun i hi q hq=>hc.off (h1.apart i hi q hq) ((h1.st i hi).old q hq),h1.each,fun q hq=>?_,h1.bS⟩,chgD_below hc h1.bW hBw⟩
 rcases hc.fresh q hq with g1 | g1
 ·exact h1.bW q g1
 ·omega
theorem AllAt.whole {B N g M m:Nat} {w:World} (h:AllAt B N g M m w) (hM:M < 8000000000000):Calls Try.prog 22 #[.pointer (some ⟨g,0,none⟩)] w fun e w'=>e=.returned (.bool true)∧w'=w:=by
 obtain ⟨S,bsv,outv,outs,own,h1⟩:=h
 exact whole_any g bsv outv (bbs S m) outs own w h1.mem (by rw [h1.len]; exact hM)
theorem pickL_any (c n:Int) (w:World) (h:i64B c) (hn:0 < n) (hn':n≤100000000000000) :
  Calls Try.prog 20 #[.int .i64 c,.int .i64 n] w fun e w'=>e=.returned (.int .i64 (pickZ c n))∧w=w':=by
 obtain ⟨h1,h2⟩:=h
 by_cases hc:c < 0
 ·go_enter Try.func20,Try.ntmps20
  go_wp2
  go_ret
  exact ⟨congrArg (fun z=>Ending.returned (.int .i64 z)) (pickZ_neg hc),rfl⟩
 ·have hc':0≤c:=by omega
  clear hc
  go_enter Try.func20,Try.ntmps20
  go_wp2
  go_ret
  exact ⟨congrArg (fun z=>Ending.returned (.int .i64 z)) (pickZ_pos hc'),rfl⟩
def cfgC (c:Int × Int × Int):List Value:=[.int .i64 c.1,.int .i64 c.2.1,.int .i64 c.2.2]
def intC (n:Int):List Value:=[.int .i64 n]
def isCfgs (w:World) (v:Value) (l:List (Int × Int × Int)):Prop :=
 ∃ ao cap,v=.slice ao l.length cap∧l.length≤maxLen∧∀ i o,l[i]?=some o→∃ b off,ao=some ⟨b,off,none⟩∧b < w.heap.size∧w.rangeAt b (off+i*3) (cfgC o)
def isInts (w:World) (v:Value) (l:List Int):Prop :=
 ∃ ao cap,v=.slice ao l.length cap∧l.length≤maxLen∧∀ i o,l[i]?=some o→∃ b off,ao=some ⟨b,off,none⟩∧b < w.heap.size∧w.rangeAt b (off+i*1) (intC o)
theorem infoBoth:(Try.prog.info? 37).map (fun i=>(i.zero,i.size,i.bytes))=some (some (.pointer none),1,8):=by kernel_rfl
theorem sizeCfg:(Try.prog.info? 23).map (·.size)=some 3:=by kernel_rfl
def sd0:StD:=⟨0,0,0,fun _=>none,fun _=>none,ps0 0 0 0,st0 0 0 0⟩
theorem all0 {w:World} {B g:Nat} (hB:B≤g) (h:w.heap[g]?=some (.cells #[.slice none 0 0,.slice none 0 0] 54 (0,0))):AllAt B 0 g 0 0 w:=by
 refine ⟨fun _=>sd0,.slice none 0 0,.slice none 0 0,[],own0 g,⟨h,by simp [own0],⟨World.ownsRow_nil _ _ _ _,fun q hq=>by cases hq⟩,⟨World.ownsRow_nil _ _ _ _,fun q hq=>by cases hq⟩,fun j v hj=>(by cases hj),fun q hq=>?_⟩,rfl,fun i hi=>absurd hi (Nat.not_lt_zero i),fun i hi=>absurd hi (Nat.not_lt_zero i),fun i _ hi=>absurd hi (Nat.not_lt_zero i),fun q hq=>?_,fun i hi=>absurd hi (Nat.not_lt_zero i)⟩
 ·have:=own0_at hq
  subst this
  exact (Array.getElem?_eq_some_iff.1 h).1
 ·have:=own0_at hq
  omega
theorem AllAt.below {B N g M m:Nat} {w w':World} (h:AllAt B N g M m w) (hb:Below w.heap.size w w'):AllAt B N g M m w':=by
 obtain ⟨S,bsv,outv,outs,own,h⟩:=h
 exact ⟨S,bsv,outv,outs,own,h.below hb⟩
theorem all_walk (cv sv rv:Value) (cs:List (Int × Int × Int)) (script:List Ent) (raw:List Int) (w:World) (hcs:isCfgs w cv cs) (hsc:isScript w sv script) (hrw:isInts w rv raw) (hri:∀ (j:Nat) x,raw[j]?=some x→i64B x) (l1:cs.length*24≤140737488351232) (l2:script.length*80≤140737488351232) (l3:raw.length*8≤140737488351232) :
  Calls Try.prog 8 #[cv,sv,rv] w fun e w'=>e=.returned (.bool true)∧Below w.heap.size w w':=by
 obtain ⟨ac,cc,rfl,_,hec⟩:=hcs
 obtain ⟨asl,cs2,rfl,_,hes⟩:=hsc
 obtain ⟨ar,cr,rfl,_,her⟩:=hrw
 obtain ⟨i0,hi0,hz0,hs0,hb0⟩:=info_all infoBoth
 have HEC:Hid (type_of% hec):=hec
 have HES:Hid (type_of% hes):=hes
 have HER:Hid (type_of% her):=her
 have HRI:Hid (type_of% hri):=hri
 clear hec hes her hri
 go_enter Try.func8,Try.ntmps8
 go_upto_region 2 with fail
 have hA:Below w.heap.size w (w.alloc (.cells #[.slice none 0 0,.slice none 0 0] 54)):=(Below.refl _ _).alloc (Nat.le_refl _) _
 have hX:(w.alloc (.cells #[.slice none 0 0,.slice none 0 0] 54)).heap[w.heap.size]?=some (.cells #[.slice none 0 0,.slice none 0 0] 54 (0,0)):=heap_alloc_new w _
 have HA0:Hid (AllAt w.heap.size 0 w.heap.size 0 0 (w.alloc (.cells #[.slice none 0 0,.slice none 0 0] 54))):=all0 (Nat.le_refl _) hX
 have HB0:Hid (Below w.heap.size w (w.alloc (.cells #[.slice none 0 0,.slice none 0 0] 54))):=hA
 clear hA hX
 generalize w.alloc (.cells #[.slice none 0 0,.slice none 0 0] 54)=wA at *
 obtain ⟨g,hgg⟩:∃ g,g=w.heap.size:=⟨_,rfl⟩
 have Hgg:Hid (g=w.heap.size):=hgg
 rw [← hgg] at HA0 HB0
 rw [← hgg]
 clear hgg
 go_wp2_with fail
 go_loopw [8] (fun i wr=>∃ n m:Nat,n≤cs.length∧m≤n∧i=.int .i64 n∧Hid (AllAt g 0 g 0 m wr)∧Hid (Below g w wr)) (fun i _=>cs.length - (intOf i).toNat)
 case atStart=>exact ⟨0,0,Nat.zero_le _,Nat.le_refl _,rfl,HA0,HB0⟩
 case round =>
  obtain ⟨n,m,hn,hm,rfl,In,hB⟩:=hrel
  have hz:g≤wr.heap.size:=by have:=hB.out.size; have:=Hgg.out; omega
  by_cases hlt:n < cs.length
  ·have hg:=List.getElem?_eq_getElem hlt
   generalize cs[n]=cf at hg
   obtain ⟨k,v,c⟩:=cf
   obtain ⟨bs,off,rfl,hbl,hrg⟩:=HEC.out n (k,v,c) hg
   have hrg':wr.rangeAt bs (off+n*3) [.int .i64 k,.int .i64 v,.int .i64 c]:=rangeAt_below hrg hB.out (by have:=Hgg.out; omega)
   have zn:(n:Int) < (cs.length:Int):=by omega
   clear hrg hg
   cases hmay:mayB k v c with
   | false =>
    have hbn:=fun W=>bothBegun_no thePgm k v c W hmay
    have HBN:Hid (type_of% hbn):=hbn
    clear hbn
    go_wp2_with (first | (refine wpList_load_mid rfl 23 _ rfl bs (off+n*3) rfl _ _ hrg' Try.underlying23 rfl sizeCfg ?_))
    refine (HBN.out _).mono ?_
    rintro e w1 ⟨rfl,hb1⟩
    have I1:Hid (AllAt g 0 g 0 m w1):=In.out.below hb1
    have HB1:Hid (Below g w w1):=hB.out.trans (hb1.mono hz)
    clear hb1
    go_wp2
    go_roundw
    case rel=>exact ⟨n+1,m,by omega,by omega,by go_num,I1,HB1⟩
    case measure=>simp [intOf]; omega
   | true =>
    have hby:=fun W=>bothBegun_yes thePgm k v c W hmay
    have HBY:Hid (type_of% hby):=hby
    obtain ⟨S,bsv,outv,outs,own,A0⟩:=In.out
    obtain ⟨ab,cb,hbv⟩:=ownsRow_slice A0.mem.bs.1
    rw [bbs_len] at hbv
    subst hbv
    have HAW:Hid (AllW g 0 g 0 m S (.slice ab m cb) outv outs own wr):=A0
    clear hby A0
    go_wp2_with (first | (refine wpList_load_mid rfl 23 _ rfl bs (off+n*3) rfl _ _ hrg' Try.underlying23 rfl sizeCfg ?_))
    refine (HBY.out _).mono ?_
    rintro e w1 ⟨bb,p,r,oP,oR,rfl,hb1,hbb,hat,hfr⟩
    have HB1:Hid (Below wr.heap.size wr w1):=hb1
    have HA1:Hid (AllW g 0 g 0 m S (.slice ab m cb) outv outs own w1):=HAW.out.below hb1
    have HBB:Hid (wr.heap.size≤bb):=hbb
    have HAT:Hid (type_of% hat):=hat
    have HFR:Hid (type_of% hfr):=hfr
    have d0:w1.cell? ⟨g,0,none⟩=some (.slice ab m cb):=by rw [cell_of_row w1 g 0 _ _ _ HA1.out.mem.root]; rfl
    have zg1:g < w1.heap.size:=HA1.out.mem.old g (by rw [HA1.out.mem.tag]; simp)
    have hrow:=HA1.out.mem.bs.1
    rw [bbs_len] at hrow
    have HROW:Hid (type_of% hrow):=hrow
    have hng:some g≠(Value.slice ab m cb).ownBlock:=fun e=>by
     have:=HA1.out.mem.bs.2 g e.symm
     rw [HA1.out.mem.tag] at this; cases this
    have HNG:Hid (type_of% hng):=hng
    clear hb1 hbb hat hfr hrow hng hrg'
    go_wp2_with (at_builtin; refine wpList_append_two rfl _ _ 51 rfl 37 i0 (.pointer none) 1 8 Try.underlying51 hi0 hz0 hs0 hb0 rfl (by decide) _ _ _ rfl (HROW.out.alloc _) ⟨w1.heap.size,0,none⟩ 1 1 [.pointer (some ⟨bb,0,none⟩)] rfl rfl ?c1 ?c2 (by decide) ?c3 ?c4 ?_)
    case c1=>exact cell_new1 w1 _ 37 _ rfl
    case c2=>intro u hu; simp at hu; subst hu; rfl
    case c3=>unfold maxLen; omega
    case c4=>omega
    intro v' w2 hrow2 htw
    obtain ⟨ab2,cb2,rfl⟩:=ownsRow_slice hrow2
    have hA1:Below w1.heap.size w1 (w1.alloc (.cells #[.pointer (some ⟨bb,0,none⟩)] 37)):=(Below.refl _ _).alloc (Nat.le_refl _) _
    have hroot2:w2.heap[g]?=some (.cells #[.slice ab m cb,outv] 54 (0,0)):=by
     rw [htw.block (by simp; omega) HNG.out,hA1.block g zg1]; exact HA1.out.mem.root
    have k0:w2.cell? ⟨g,0,none⟩=some (.slice ab m cb):=by rw [cell_of_row w2 g 0 _ _ _ hroot2]; rfl
    have f0:w2.frozen? ⟨g,0,none⟩=false:=frozen_of_row w2 g 0 _ _ hroot2
    have zg2:g < w2.heap.size:=(Array.getElem?_eq_some_iff.1 hroot2).1
    obtain ⟨hf1,hf2⟩:=HA1.out.more (Nat.le_trans hz HB1.out.size) hmay HB1.out HAW.out HBB.out HAT.out HFR.out hA1 htw hrow2
    have I1:Hid (AllAt g 0 g 0 (m+1) (w2.setCell ⟨g,0,none⟩ (.slice ab2 (m+1) cb2))):=hf1
    have HB2:Hid (Below g w (w2.setCell ⟨g,0,none⟩ (.slice ab2 (m+1) cb2))):=(hB.out.trans (HB1.out.mono hz)).trans hf2
    clear hrow2 htw hroot2 hA1 hf1 hf2
    go_wp2
    go_roundw
    case rel=>exact ⟨n+1,m+1,by omega,by omega,by go_num,I1,HB2⟩
    case measure=>simp [intOf]; omega
  ·have mle:m*24≤140737488351232:=by omega
   obtain ⟨wE,hwE⟩:∃ u,u=wr:=⟨_,rfl⟩
   subst hwE
   go_wp2_with fail
   clear hlt hn hm
   go_loopw [11] (fun i wr=>∃ n:Nat,n≤script.length∧i=.int .i64 n∧Hid (AllAt g n g (4*n) m wr)∧Hid (Below g w wr)) (fun i _=>script.length - (intOf i).toNat)
   case atStart=>exact ⟨0,Nat.zero_le _,rfl,In,hB⟩
   case round =>
    clear In hB hz
    obtain ⟨n,hn,rfl,In,hB⟩:=hrel
    have hz:g≤wr.heap.size:=by have:=hB.out.size; have:=Hgg.out; omega
    obtain ⟨S,bsv,outv,outs,own,A0⟩:=In.out
    have HFM:=A0.mem.bs.form len_ptrC
    rw [bbs_len] at HFM
    obtain ⟨ab,cb,hbv,_,hbe⟩:=HFM
    subst hbv
    have HAW:Hid (AllW g n g (4*n) m S (.slice ab m cb) outv outs own wr):=A0
    have HBE:Hid (type_of% hbe):=hbe
    have d0:wr.cell? ⟨g,0,none⟩=some (.slice ab m cb):=by rw [cell_of_row wr g 0 _ _ _ A0.mem.root]; rfl
    have zg:g < wr.heap.size:=A0.mem.old g (by rw [A0.mem.tag]; simp)
    clear A0 hbe
    by_cases hlt:n < script.length
    ·have zn:(n:Int) < (script.length:Int):=by omega
     by_cases hm0:0 < m
     ·have zm:(0:Int) < (m:Int):=by omega
      have hg:=List.getElem?_eq_getElem hlt
      generalize script[n]=o at hg
      obtain ⟨bs,off,rfl,hbl,hrg⟩:=HES.out n o hg
      have HRG:Hid (w.rangeAt bs (off+n*10) (entC o)):=hrg
      clear hrg hg
      go_upto_if 61 with fail
      go_cut [12] from 45 to 98 (fun kv wc=>∃ k:Nat,k < m∧kv=.int .i64 k∧Hid (Below wr.heap.size wr wc))
      case first =>
       by_cases hr0:0 < raw.length
       ·have zr:(0:Int) < (raw.length:Int):=by omega
        have hjl:n % raw.length < raw.length:=Nat.mod_lt _ hr0
        have hg:=List.getElem?_eq_getElem hjl
        generalize hxx:raw[n % raw.length]=x at hg
        have hix:=HRI.out _ x hg
        obtain ⟨rb,ro,rfl,hrl,hrr⟩:=HER.out _ x hg
        have hj:((n:Int) % (raw.length:Int))=((n % raw.length:Nat):Int):=by omega
        generalize n % raw.length=j at *
        have cx0:w.cell? ⟨rb,ro+j,none⟩=some (.int .i64 x):=by
         have:=hrr 0 _ rfl
         rw [Nat.mul_one] at this
         exact this
        have cx:wr.cell? ⟨rb,ro+j,none⟩=some (.int .i64 x):=(hB.out.cell (p:=⟨rb,ro+j,none⟩) (by have:=Hgg.out; show rb < g; omega)).trans cx0
        have zj:(j:Int) < (raw.length:Int):=by omega
        have hpk:∀ W,Calls Try.prog 20 #[.int .i64 x,.int .i64 (m:Int)] W fun e w'=>e=.returned (.int .i64 (pickZ x (m:Int)))∧Below W.heap.size W w':=fun W=>by
         refine (pickL_any x (m:Int) W hix zm (by omega)).mono ?_
         rintro e w' ⟨rfl,rfl⟩
         exact ⟨rfl,Below.refl _ _⟩
        obtain ⟨p1,p2⟩:=pickZ_range (c:=x) (n:=(m:Int)) zm
        obtain ⟨kk,hkk⟩:∃ kk:Nat,pickZ x (m:Int)=(kk:Int):=⟨(pickZ x (m:Int)).toNat,by omega⟩
        rw [hkk] at hpk p1 p2
        have HPK:Hid (type_of% hpk):=hpk
        clear hpk hkk hix cx0 hrr hg
        go_upto_region 15 with fail
        have kx:=kin_cell cx
        have kd:=kin_cell d0
        have hki:=kin_some wr
        refine wp_region_kin (by kernel_rfl) (by kernel_rfl) ?_
        repeat (first | go_big_quiet_step ((go_at_call 20; exact Calls.kin (HPK.out _))) | quiet_step ((go_at_call 20; exact Calls.kin (HPK.out _))))
        refine wpQuiet_nil ?_
        intro _ hw'
        obtain ⟨xq,hw''⟩:=hw'
        subst hw''
        have HBq:Hid (Below wr.heap.size wr xq.w):=xq.h
        go_wp2_with fail
        go_meet
        case rel=>exact ⟨kk,by omega,rfl,HBq⟩
       ·have hr1:raw.length=0:=by omega
        have HRF:Hid (Below wr.heap.size wr wr):=Below.refl _ _
        go_wp2
        go_meet
        case rel=>exact ⟨0,hm0,rfl,HRF⟩
      case rest =>
       obtain ⟨k,hk,rfl,HBc⟩:=hcut
       obtain ⟨u0,hu0⟩:∃ u,u=wc:=⟨_,rfl⟩
       subst hu0
       have zk:(k:Int) < (m:Int):=by omega
       have HAU:Hid (AllW g n g (4*n) m S (.slice ab m cb) outv outs own u0):=HAW.out.below HBc.out
       have HBU:Hid (Below g w u0):=hB.out.trans (HBc.out.mono hz)
       have hzu:g≤u0.heap.size:=by have:=HBc.out.size; omega
       obtain ⟨kb,rfl,hkt,hkl,hkr,_⟩:=HBE.out k (S k).bb (bbs_get S hk)
       have hkl':kb < u0.heap.size:=by have:=HBc.out.size; omega
       have ek:u0.cell? ⟨kb,k,none⟩=some (.pointer (some ⟨(S k).bb,0,none⟩)):=by
        have:=hkr 0 _ rfl
        rw [Nat.mul_one] at this
        exact (HBc.out.cell (p:=⟨kb,k+0,none⟩) hkl).trans this
       have eg:u0.cell? ⟨g,0,none⟩=some (.slice (some ⟨kb,0,none⟩) m cb):=cell_later HBc.out d0
       obtain ⟨bbk,hbk⟩:∃ b,b=(S k).bb:=⟨_,rfl⟩
       rw [← hbk] at ek
       have hkeepS:∀ W,Below g w W→(∀ q,own q≠none→W.heap[q]?=u0.heap[q]?)→W.cell? ⟨g,0,none⟩=some (.slice (some ⟨kb,0,none⟩) m cb)∧W.cell? ⟨kb,k,none⟩=some (.pointer (some ⟨bbk,0,none⟩))∧W.cell? ⟨bs,off+n*10,none⟩=some (.bool o.look)∧W.cell? ⟨bs,off+n*10+1,none⟩=some (.int .i64 o.step.who.1)∧W.cell? ⟨bs,off+n*10+2,none⟩=some (.int .i64 o.step.who.2.1)∧W.cell? ⟨bs,off+n*10+3,none⟩=some (.int .i64 o.step.who.2.2)∧W.cell? ⟨bs,off+n*10+4,none⟩=some (.int .i64 o.step.op)∧W.cell? ⟨bs,off+n*10+5,none⟩=some (.int .i64 o.step.at_.1)∧W.cell? ⟨bs,off+n*10+6,none⟩=some (.int .i64 o.step.at_.2)∧W.cell? ⟨bs,off+n*10+7,none⟩=some (.int .i64 o.step.key)∧W.cell? ⟨bs,off+n*10+8,none⟩=some (.int .i64 o.step.to_)∧W.cell? ⟨bs,off+n*10+9,none⟩=some (.int .i64 o.step.value):=fun W hW hq=>by
        have hr:=rangeAt_below HRG.out (B:=g) hW (by have:=Hgg.out; omega)
        refine ⟨(World.cell?_of_block (hq g (by rw [HAU.out.mem.tag]; simp))).trans eg,(World.cell?_of_block (hq kb (by rw [hkt]; simp))).trans ek,hr 0 _ rfl,hr 1 _ rfl,hr 2 _ rfl,hr 3 _ rfl,hr 4 _ rfl,hr 5 _ rfl,hr 6 _ rfl,hr 7 _ rfl,hr 8 _ rfl,hr 9 _ rfl⟩
       have HKS:Hid (type_of% hkeepS):=hkeepS
       have hent:∀ W,Below u0.heap.size u0 W→Calls Try.prog 19 #[.pointer (some ⟨bbk,0,none⟩),.agg #[.bool o.look,.int .i64 o.step.who.1,.int .i64 o.step.who.2.1,.int .i64 o.step.who.2.2,.int .i64 o.step.op,.int .i64 o.step.at_.1,.int .i64 o.step.at_.2,.int .i64 o.step.key,.int .i64 o.step.to_,.int .i64 o.step.value]] W fun e w'=>∃ v,e=.returned (.tuple #[v,.bool true])∧AllMid g (n+1) g (4*n) m (.slice (some ⟨kb,0,none⟩) m cb) v w'∧Below g W w'∧∀ q,own q≠none→w'.heap[q]?=u0.heap[q]?:=fun W hW=>by
        rw [hbk]
        refine ((HAU.out.below hW).entered hk (Nat.le_trans hzu hW.size) (by omega) o).mono ?_
        rintro e w' ⟨v,rfl,h1,h2,h3⟩
        exact ⟨v,rfl,h1,h2,fun q hq=>(h3 q hq).trans (hW.block q (HAU.out.mem.old q hq))⟩
       have HEN:Hid (type_of% hent):=hent
       obtain ⟨x0,x1,y0,y1,y2,y3,y4,y5,y6,y7,y8,y9⟩:=hkeepS u0 HBU.out (fun _ _=>rfl)
       clear hent hkeepS hkr ek eg d0 hkt hbk
       go_upto_region 16 with fail
       refine wp_region_Z (z:=16) (S:=fun W=>W.cell? ⟨g,0,none⟩=some (.slice (some ⟨kb,0,none⟩) m cb)∧W.cell? ⟨kb,k,none⟩=some (.pointer (some ⟨bbk,0,none⟩))∧W.cell? ⟨bs,off+n*10,none⟩=some (.bool o.look)∧W.cell? ⟨bs,off+n*10+1,none⟩=some (.int .i64 o.step.who.1)∧W.cell? ⟨bs,off+n*10+2,none⟩=some (.int .i64 o.step.who.2.1)∧W.cell? ⟨bs,off+n*10+3,none⟩=some (.int .i64 o.step.who.2.2)∧W.cell? ⟨bs,off+n*10+4,none⟩=some (.int .i64 o.step.op)∧W.cell? ⟨bs,off+n*10+5,none⟩=some (.int .i64 o.step.at_.1)∧W.cell? ⟨bs,off+n*10+6,none⟩=some (.int .i64 o.step.at_.2)∧W.cell? ⟨bs,off+n*10+7,none⟩=some (.int .i64 o.step.key)∧W.cell? ⟨bs,off+n*10+8,none⟩=some (.int .i64 o.step.to_)∧W.cell? ⟨bs,off+n*10+9,none⟩=some (.int .i64 o.step.value)) (by kernel_rfl) ?_
       have hS:=HKS.out u0.drew (HBU.out.trans ((Below.refl u0.heap.size u0).drew.mono hzu)) (fun _ _=>rfl)
       refine zC 9 (i:=0) (v:=?v1) (by decide +kernel) rfl (fun _ _ _ h=>h) hS (.inl ⟨by rfl,?y1⟩) ?_
       case y1=>(rintro wz ⟨zs0,zs1,zs2,zs3,zs4,zs5,zs6,zs7,zs8,zs9,zs10,zs11⟩; go_simp<;>with_reducible rfl)
       simp only [Act.put,z1,z2,z4,z5,z6]
       refine zC 9 (i:=1) (v:=?v2) (by decide +kernel) rfl (fun _ _ _ h=>h) hS (.inl ⟨by rfl,?y2⟩) ?_
       case y2=>(rintro wz ⟨zs0,zs1,zs2,zs3,zs4,zs5,zs6,zs7,zs8,zs9,zs10,zs11⟩; go_simp<;>with_reducible rfl)
       simp only [Act.put,z1,z2,z3,z4,z5,z6]
       refine zC 9 (i:=2) (v:=?v3) (by decide +kernel) rfl (fun _ _ _ h=>h) hS (.inl ⟨by rfl,?y3⟩) ?_
       case y3=>(rintro wz ⟨zs0,zs1,zs2,zs3,zs4,zs5,zs6,zs7,zs8,zs9,zs10,zs11⟩; go_simp<;>with_reducible rfl)
       simp only [Act.put,z1,z2,z3,z4,z5,z6]
       refine zC 9 (i:=3) (v:=?v4) (by decide +kernel) rfl (fun _ _ _ h=>h) hS (.inl ⟨by rfl,?y4⟩) ?_
       case y4=>(rintro wz ⟨zs0,zs1,zs2,zs3,zs4,zs5,zs6,zs7,zs8,zs9,zs10,zs11⟩; go_simp<;>with_reducible rfl)
       simp only [Act.put,z1,z2,z3,z4,z5,z6]
       refine zC 9 (i:=4) (v:=?v5) (by decide +kernel) rfl (fun _ _ _ h=>h) hS (.inl ⟨by rfl,?y5⟩) ?_
       case y5=>(rintro wz ⟨zs0,zs1,zs2,zs3,zs4,zs5,zs6,zs7,zs8,zs9,zs10,zs11⟩; go_simp<;>with_reducible rfl)
       simp only [Act.put,z1,z2,z3,z4,z5,z6]
       refine zC 9 (i:=5) (v:=?v6) (by decide +kernel) rfl (fun _ _ _ h=>h) hS (.inl ⟨by rfl,?y6⟩) ?_
       case y6=>(rintro wz ⟨zs0,zs1,zs2,zs3,zs4,zs5,zs6,zs7,zs8,zs9,zs10,zs11⟩; go_simp<;>with_reducible rfl)
       simp only [Act.put,z1,z2,z3,z4,z5,z6]
       refine zC 9 (i:=6) (v:=?v7) (by decide +kernel) rfl (fun _ _ _ h=>h) hS (.inl ⟨by rfl,?y7⟩) ?_
       case y7=>(rintro wz ⟨zs0,zs1,zs2,zs3,zs4,zs5,zs6,zs7,zs8,zs9,zs10,zs11⟩; go_simp<;>with_reducible rfl)
       simp only [Act.put,z1,z2,z3,z4,z5,z6]
       refine zC 9 (i:=7) (v:=?v8) (by decide +kernel) rfl (fun _ _ _ h=>h) hS (.inl ⟨by rfl,?y8⟩) ?_
       case y8=>(rintro wz ⟨zs0,zs1,zs2,zs3,zs4,zs5,zs6,zs7,zs8,zs9,zs10,zs11⟩; go_simp<;>with_reducible rfl)
       simp only [Act.put,z1,z2,z3,z4,z5,z6]
       refine zC 9 (i:=8) (v:=?v9) (by decide +kernel) rfl (fun _ _ _ h=>h) hS (.inl ⟨by rfl,?y9⟩) ?_
       case y9=>(rintro wz ⟨zs0,zs1,zs2,zs3,zs4,zs5,zs6,zs7,zs8,zs9,zs10,zs11⟩; go_simp<;>with_reducible rfl)
       simp only [Act.put,z1,z2,z3,z4,z5,z6]
       refine zC 9 (i:=9) (v:=?v10) (by decide +kernel) rfl (fun _ _ _ h=>h) hS (.inl ⟨by rfl,?y10⟩) ?_
       case y10=>(rintro wz ⟨zs0,zs1,zs2,zs3,zs4,zs5,zs6,zs7,zs8,zs9,zs10,zs11⟩; go_simp<;>with_reducible rfl)
       simp only [Act.put,z1,z2,z3,z4,z5,z6]
       refine zC 9 (i:=10) (v:=?v11) (by decide +kernel) rfl (fun _ _ _ h=>h) hS (.inl ⟨by rfl,?y11⟩) ?_
       case y11=>(rintro wz ⟨zs0,zs1,zs2,zs3,zs4,zs5,zs6,zs7,zs8,zs9,zs10,zs11⟩; go_simp<;>with_reducible rfl)
       simp only [Act.put,z1,z2,z3,z4,z5,z6]
       refine wpAnyZ_one (i:=11) (by decide +kernel) rfl (fun K hK=>?_)
       go_simp
       refine (HEN.out _ (Below.refl _ _).drew).mono ?_
       rintro e w6 ⟨v,rfl,hmid,hb6,hk6⟩
       have HBV:Hid (Below g w w6):=(HBU.out.trans ((Below.refl u0.heap.size u0).drew.mono hzu)).trans hb6
       have hS:=HKS.out w6 HBV.out hk6
       refine hK _ _ (fun _=>hS) ?_
       clear hK
       refine zC 9 (i:=12) (v:=?v12) (by decide +kernel) rfl (fun _ _ _ h=>h) hS (.inl ⟨by rfl,?y12⟩) ?_
       case y12=>(rintro wz ⟨zs0,zs1,zs2,zs3,zs4,zs5,zs6,zs7,zs8,zs9,zs10,zs11⟩; go_simp<;>with_reducible rfl)
       simp only [Act.put,z1,z2,z3,z4,z5,z6]
       refine zC 9 (i:=13) (v:=?v13) (by decide +kernel) rfl (fun _ _ _ h=>h) hS (.inl ⟨by rfl,?y13⟩) ?_
       case y13=>(rintro wz ⟨zs0,zs1,zs2,zs3,zs4,zs5,zs6,zs7,zs8,zs9,zs10,zs11⟩; go_simp<;>with_reducible rfl)
       simp only [Act.put,z1,z2,z3,z4,z5,z6]
       refine zC 9 (i:=14) (v:=?v14) (by decide +kernel) rfl (fun _ _ _ h=>h) hS (.inl ⟨by rfl,?y14⟩) ?_
       case y14=>(rintro wz ⟨zs0,zs1,zs2,zs3,zs4,zs5,zs6,zs7,zs8,zs9,zs10,zs11⟩; go_simp<;>with_reducible rfl)
       simp only [Act.put,z1,z2,z3,z4,z5,z6]
       refine wpAnyZ_one (i:=15) (by decide +kernel) rfl (fun K hK=>?_)
       go_simp
       refine hK _ _ (fun _=>hS) ?_
       clear hK
       refine wpAnyZ_one (i:=16) (by decide +kernel) rfl (fun K hK=>?_)
       go_simp
       refine hK _ _ (fun h=>absurd rfl h) ?_
       clear hK
       refine wpAnyZ_done (by decide +kernel) ?_ _
       have HMD:Hid (AllMid g (n+1) g (4*n) m (.slice (some ⟨kb,0,none⟩) m cb) v w6):=hmid
       have hz6:g≤w6.heap.size:=by have:=HBV.out.size; have:=Hgg.out; omega
       clear hmid hb6 hk6 x0 x1 y0 y1 y2 y3 y4 y5 y6 y7 y8 y9 hS
       go_wp2_with fail
       refine (HMD.out.mined hz6 (by omega)).mono ?_
       rintro e w7 ⟨rfl,hat7,hb7⟩
       have HA7:Hid (AllAt g (n+1) g (4*(n+1)) m w7):=hat7
       have HB7:Hid (Below g w w7):=HBV.out.trans hb7
       clear hat7 hb7
       go_wp2_with fail
       refine (HA7.out.whole (by omega)).mono ?_
       rintro e w8 ⟨rfl,rfl⟩
       go_wp2
       go_roundw
       case rel=>exact ⟨n+1,by omega,by go_num,HA7,HB7⟩
       case measure=>simp [intOf]; omega
     ·have hm1:m=0:=by omega
      subst hm1
      go_wp2
      go_ret
      exact ⟨rfl,by have:=hB.out; rw [Hgg.out] at this; exact this⟩
    ·go_wp2
     go_ret
     exact ⟨rfl,by have:=hB.out; rw [Hgg.out] at this; exact this⟩
end Go.Proofs.Ytpbcplfpjcacfaa
namespace Go.Proofs.Ytpbcplfpjcacfaa
open Go.ChangeShapes Go.WideShapes Go.ChangeAt Go.RowKit Go.Joins Go.Deep
set_option maxRecDepth 100000
set_option maxHeartbeats 8000000
section
variable {H:Type} {enc:TypeId × Value→H} {W:World} {base:Nat} {sp:Nat→Bool} {hd:Bool}
theorem trod_cfg {fuel:Nat} {cs:List Value} {x:DataW H × List MemPlace} (h:DataW.trod enc Try.prog W base sp hd fuel 23 cs=some x):∃ c:Int × Int × Int,cs=cfgC c:=by
 obtain ⟨xs,n,_,_,hl,hxl,hf⟩:=DataW.trod_struct Try.underlying23 h
 rw [cellsConfig] at hl
 match xs,hxl,cs,hl with
 | [y0,y1,y2],_,[c0,c1,c2],_ =>
  have g0:=hf 0 _ rfl
  have g1:=hf 1 _ rfl
  have g2:=hf 2 _ rfl
  simp [cellsInt] at g0 g1 g2
  obtain ⟨a,ha⟩:=trod_i g0
  obtain ⟨b,hb⟩:=trod_i g1
  obtain ⟨c,hc⟩:=trod_i g2
  simp at ha hb hc
  exact ⟨(a,b,c),by simp [cfgC,ha,hb,hc]⟩
theorem trod_iB {fuel:Nat} {cs:List Value} {x:DataW H × List MemPlace} (h:DataW.trod enc Try.prog W base sp hd fuel 3 cs=some x):∃ a:{ a:Int // i64B a },cs=intC a.1:=by
 obtain ⟨a,h1,_,hw⟩:=DataW.trod_int Try.underlying3 h
 unfold Lit.wf at hw
 simp only [Bool.and_eq_true,decide_eq_true_eq] at hw
 exact ⟨⟨a,hw⟩,h1⟩
end
section
variable {H:Type} {enc:TypeId × Value→H} {w:World} {base b0:Nat} {spare:Nat→Bool} {held:Bool} {r:Reach} {v:Value} {d:DataW H} {p:List MemPlace}
theorem open_cfgs (hv:Value.okWide Try.prog w r b0 48 v) (h:DataW.Trod enc Try.prog w base spare held 48 v d p) :
  ∃ l:List (Int × Int × Int),isCfgs w v l∧(d=.nil∧l=[]∨∃ es s,d=.slice es s∧es.length=l.length):=by
 obtain ⟨a0,len,cap,rfl⟩:=okWide_slice Try.underlying48 hv
 obtain ⟨fuel,hf⟩:=h
 obtain ⟨ao,cp,l,h1,h2,h3,h4⟩:=open_rows cfgC Try.underlying48 cellsConfig (by decide) (fun _ _ _ h=>trod_cfg h) hf
 exact ⟨l,⟨ao,cp,h1,h2,h3⟩,h4⟩
theorem open_ints (hv:Value.okWide Try.prog w r b0 49 v) (h:DataW.Trod enc Try.prog w base spare held 49 v d p) :
  ∃ l:List Int,(isInts w v l∧∀ (j:Nat) x,l[j]?=some x→i64B x)∧(d=.nil∧l=[]∨∃ es s,d=.slice es s∧es.length=l.length):=by
 obtain ⟨a0,len,cap,rfl⟩:=okWide_slice Try.underlying49 hv
 obtain ⟨fuel,hf⟩:=h
 have:Inhabited { a:Int // i64B a }:=⟨⟨0,by unfold i64B; omega⟩⟩
 obtain ⟨ao,cp,l,h1,h2,h3,h4⟩:=open_rows (fun a:{ a:Int // i64B a }=>intC a.1) Try.underlying49 cellsInt (by decide) (fun _ _ _ h=>trod_iB h) hf
 refine ⟨l.map Subtype.val,⟨⟨ao,cp,by rw [List.length_map]; exact h1,by rw [List.length_map]; exact h2,fun i o hi=>?_⟩,fun j x hj=>?_⟩,?_⟩
 ·rw [List.getElem?_map] at hi
  cases e:l[i]? with
  | none=>rw [e] at hi; cases hi
  | some a =>
   rw [e] at hi
   have:a.1=o:=by simpa using hi
   subst this
   exact h3 i a e
 ·rw [List.getElem?_map] at hj
  cases e:l[j]? with
  | none=>rw [e] at hj; cases hj
  | some a =>
   rw [e] at hj
   have:a.1=x:=by simpa using hj
   subst this
   exact a.2
 ·rcases h4 with ⟨e1,e2⟩ | ⟨es,s,e1,e2⟩
  ·exact .inl ⟨e1,by rw [e2]; rfl⟩
  ·exact .inr ⟨es,s,e1,by rw [List.length_map]; exact e2⟩
end
end Go.Proofs.Ytpbcplfpjcacfaa
namespace Go.Proofs.Ytpbcplfpjcacfaa
open Go.ChangeShapes Go.WideShapes Go.ChangeAt Go.RowKit Go.Joins Go.Deep
set_option linter.unusedVariables false
set_option maxRecDepth 100000
set_option maxHeartbeats 8000000
theorem bytesCfg:Try.prog.bytesOf 23=24:=by kernel_rfl
theorem bytesInt:Try.prog.bytesOf 3=8:=by kernel_rfl
theorem allF_lifted (os:Os) (started:os.Started) (H:Type) (enc:TypeId × Value→H) :
  ReturnsInHanded {} Try.checked os 8 .any (Rows.allSpec.pre6 enc Try.prog Try.f8 Rows.allRow.domain false) (Rows.allSpec.post enc Try.prog Try.f8 false true false false):=by
 refine returnsInHanded_of_change_sized (C:=Try.checked) tryOwn started (by kernel_rfl) Try.func8
  (ChangeSpec.witness6 (enc:=enc) (C:=Try.checked) false ⟨#[],#[.slice none 0 0,.slice none 0 0,.slice none 0 0],[]⟩ 8 (by kernel_rfl) (by kernel_rfl) (by kernel_rfl) (by kernel_rfl)) ?_
 intro W base args ds gs before hval0 hW hcnd hsz0 _
 have hsz:(DataW.weightsEach Try.prog (Try.f8.params.toList++Rows.allSpec.plain.varTypes Try.prog) (ds++gs)).all (·≤reachBytes)=true:=hsz0
 have hval:∀ (j:Nat) t v,Try.f8.params[j]?=some t→args[j]?=some v→Value.okWide Try.prog W .any base t v:=hval0
 have hW':=hW
 obtain ⟨p,q,hA0,hV,rfl,hfz,hnd⟩:=hW
 have hA:DataW.TrodAll enc Try.prog W 0 (fun _=>true) true Try.f8.params.toList args.toList ds p:=hA0
 rw [Try.params8] at hA hval hsz
 obtain ⟨v0,vs0,d0,ds0,p0,q0,hargs,rfl,rfl,h0,r0⟩:=trodAll_cons hA
 obtain ⟨v1,vs1,d1,ds1,p1,q1,rfl,rfl,rfl,h1,r1⟩:=trodAll_cons r0
 obtain ⟨v2,vs2,d2,ds2,p2,q2,rfl,rfl,rfl,h2,r2⟩:=trodAll_cons r1
 obtain ⟨rfl,rfl,rfl⟩:=trodAll_nil r2
 obtain rfl:args=#[v0,v1,v2]:=by cases args; simp_all
 obtain ⟨rfl,rfl⟩:=trodVars_none hV
 have lt0:∀ x∈p0,x.block < W.heap.size:=by obtain ⟨m,hm⟩:=h0; exact DataW.trod_lt m _ _ _ hm
 have lt1:∀ x∈p1,x.block < W.heap.size:=by obtain ⟨m,hm⟩:=h1; exact DataW.trod_lt m _ _ _ hm
 have lt2:∀ x∈p2,x.block < W.heap.size:=by obtain ⟨m,hm⟩:=h2; exact DataW.trod_lt m _ _ _ hm
 obtain ⟨cfgs,hcs,hd0⟩:=open_cfgs (hval 0 48 v0 rfl rfl) h0
 obtain ⟨script,hsc,hd1⟩:=open_ops (hval 1 33 v1 rfl rfl) h1
 obtain ⟨raw,⟨hrw,hri⟩,hd2⟩:=open_ints (hval 2 49 v2 rfl rfl) h2
 have hlen0:cfgs.length*24≤140737488351232:=by
  rcases hd0 with ⟨rfl,rfl⟩ | ⟨es,s,rfl,e⟩
  ·simp
  ·have:=sized_slice hsz (j:=0) (t:=48) (e:=23) rfl rfl Try.underlying48
   rw [bytesCfg,e] at this
   simp only [reachBytes] at this
   have h2:cfgs.length*24≤(cfgs.length+s.length)*24:=Nat.mul_le_mul_right _ (Nat.le_add_right _ _)
   omega
 have hlen1:script.length*80≤140737488351232:=by
  rcases hd1 with ⟨rfl,rfl⟩ | ⟨es,s,rfl,e⟩
  ·simp
  ·have:=sized_slice hsz (j:=1) (t:=33) (e:=32) rfl rfl Try.underlying33
   rw [bytesOp,e] at this
   simp only [reachBytes] at this
   have h2:script.length*80≤(script.length+s.length)*80:=Nat.mul_le_mul_right _ (Nat.le_add_right _ _)
   omega
 have hlen2:raw.length*8≤140737488351232:=by
  rcases hd2 with ⟨rfl,rfl⟩ | ⟨es,s,rfl,e⟩
  ·simp
  ·have:=sized_slice hsz (j:=2) (t:=49) (e:=3) rfl rfl Try.underlying49
   rw [bytesInt,e] at this
   simp only [reachBytes] at this
   have h2:raw.length*8≤(raw.length+s.length)*8:=Nat.mul_le_mul_right _ (Nat.le_add_right _ _)
   omega
 clear hA0 hval0
 refine (all_walk _ _ _ cfgs script raw W hcs hsc hrw hri hlen0 hlen1 hlen2).mono fun e W' ⟨he,bel⟩=>?_
 subst he
 exact ⟨_,rfl,_,_,_,[],_,[],hW',trodAll_mk1 (shut_bool Try.underlying4 _),(trodAll_cons_mk (Below.trod tryLaid (by kernel_rfl) (of_decide_eq_true (by kernel_rfl)) h0 bel lt0) (trodAll_cons_mk (Below.trod tryLaid (by kernel_rfl) (of_decide_eq_true (by kernel_rfl)) h1 bel lt1) (trodAll_cons_mk (Below.trod tryLaid (by kernel_rfl) (of_decide_eq_true (by kernel_rfl)) h2 bel lt2) trodAll_mk0))),rfl,bel.frame _,fun h=>by cases h⟩
theorem allF_over:Rows.allRow.holds Try.pinned (OpenSpec.ofChange Rows.allSpec) :=
 OpenClaim.holds_of_wide 8 Try.f8 rfl rfl rfl rfl rfl rfl rfl ⟨rfl,rfl,rfl,rfl,rfl⟩ rfl rfl rfl rfl rfl (by kernel_rfl) Try.func8 (by kernel_rfl)
  (of_decide_eq_true (by kernel_rfl)) (by unfold Func.isWrapper; first | (rw [if_pos (by decide +kernel)]; kernel_rfl) | (rw [if_neg (by decide +kernel)]; exact ⟨rfl,rfl⟩))
  (fun os started H enc _=>allF_lifted os started H enc)
theorem all_said:Rows.AllSaid:=allF_over
theorem all_holds : Rows.AllSaid := all_said
#print axioms all_holds
end Go.Proofs.Ytpbcplfpjcacfaa
