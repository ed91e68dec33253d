import Derived.Test.YtpbcplfpjcacfaaF02
namespace Go.Proofs.Ytpbcplfpjcacfaa
open Go.RowKit
set_option maxRecDepth 100000
set_option maxHeartbeats 8000000
structure Lk where
 at_:Lab
 lo:Int
 hi:Int
 wr:Bool
structure Wrt where
 touched:Nat→Bool
 left:Nat→Option Int
 put:Nat→Bool
structure Ses where
 locks:List Lk
 wr:Wrt
 req:Stp
 came:Bool
 out:Ans
 ended:Int
structure Tr where
 items:Nat→Option Int
 ses:Nat→Ses
 begun:List Nat
 queue:List Nat
structure PS where
 k:Int
 v:Int
 c:Int
 t:Nat→Tr
def upd {α:Type} (f:Nat→α) (n:Nat) (x:α):Nat→α:=fun m=>if m=n then x else f m
theorem upd_same {α:Type} (f:Nat→α) (n:Nat) (x:α):upd f n x n=x:=by simp [upd]
theorem upd_ne {α:Type} (f:Nat→α) {n m:Nat} (x:α) (h:m≠n):upd f n x m=f m:=by simp [upd,h]
theorem upd_upd {α:Type} (f:Nat→α) (n:Nat) (x y:α):upd (upd f n x) n y=upd f n y:=by
 funext m; unfold upd; split<;>rfl
theorem upd_id {α:Type} (f:Nat→α) (n:Nat):upd f n (f n)=f:=by
 funext m; unfold upd; split
 ·rename_i e; rw [e]
 ·rfl
def wrt0:Wrt:=⟨fun _=>false,fun _=>none,fun _=>false⟩
def stp0:Stp:=⟨(0,0,0),0,(0,0),0,0,0⟩
def ses0:Ses:=⟨[],wrt0,stp0,false,⟨0,0,[]⟩,0⟩
def tr0:Tr:=⟨fun _=>none,fun _=>ses0,[],[]⟩
def ps0 (k v c:Int):PS:=⟨k,v,c,fun _=>tr0⟩
def Tr.setS (t:Tr) (n:Nat) (s:Ses):Tr:={ t with ses:=upd t.ses n s }
def PS.setT (s:PS) (q:Nat) (t:Tr):PS:={ s with t:=upd s.t q t }
def PS.setS (s:PS) (q n:Nat) (x:Ses):PS:=s.setT q ((s.t q).setS n x)
def lkC (l:Lk):List Value:=[.int .i64 l.at_.1,.int .i64 l.at_.2,.int .i64 l.lo,.int .i64 l.hi,.bool l.wr]
def flagC (f:Nat→Bool):List Value:=(List.range 16).map (fun k=>.bool (f k))
def wrC (x:Wrt):List Value:=flagC x.touched++(tabV x.left++flagC x.put)
def outC (a:Ans) (v:Value):List Value:=[.int .i64 a.code,.int .i64 a.why,v]
abbrev SG:=Value × Value
def sesC (s:Ses) (g:SG):List Value:=[g.1]++(wrC s.wr++(stepC s.req++([.bool s.came]++(outC s.out g.2++[.int .i64 s.ended]))))
structure PG where
 s:Nat→Nat→SG
 b:Nat→Value
 q:Nat→Value
def PG.setS (G:PG) (q n:Nat) (g:SG):PG:={ G with s:=upd G.s q (upd (G.s q) n g) }
def PG.setB (G:PG) (q:Nat) (v:Value):PG:={ G with b:=upd G.b q v }
def PG.setQ (G:PG) (q:Nat) (v:Value):PG:={ G with q:=upd G.q q v }
def natC (n:Nat):List Value:=[.int .i64 n]
def tO (q:Nat):Nat:=3+q*350
def sO (q n:Nat):Nat:=3+q*350+32+n*79
def lockTag (q n:Nat):Tag:=(2,(q:Int),(n:Int),0)
def outTag (q n:Nat):Tag:=(3,(q:Int),(n:Int),0)
def begTag (q:Nat):Tag:=(4,(q:Int),0,0)
def queTag (q:Nat):Tag:=(5,(q:Int),0,0)
def rootTag:Tag:=(1,0,0,0)
structure PMem (w:World) (p:Nat) (s:PS) (own:Own) (G:PG):Prop where
 root:∃ C,w.heap[p]?=some (.cells C 138 (0,0))∧C.size=11203
 cfg:w.rangeAt p 0 [.int .i64 s.k,.int .i64 s.v,.int .i64 s.c]
 items:∀ q,q < 32→w.rangeAt p (tO q) (tabV (s.t q).items)
 ses:∀ q,q < 32→∀ n,n < 4→w.rangeAt p (sO q n) (sesC ((s.t q).ses n) (G.s q n))
 beg:∀ q,q < 32→w.cell? ⟨p,tO q+348,none⟩=some (G.b q)
 que:∀ q,q < 32→w.cell? ⟨p,tO q+349,none⟩=some (G.q q)
 tag:own p=some rootTag
 lockR:∀ q,q < 32→∀ n,n < 4→Row w own (lockTag q n) 148 5 (G.s q n).1 ((s.t q).ses n).locks lkC
 outR:∀ q,q < 32→∀ n,n < 4→Row w own (outTag q n) 94 2 (G.s q n).2 ((s.t q).ses n).out.items itemV
 begR:∀ q,q < 32→Row w own (begTag q) 3 1 (G.b q) (s.t q).begun natC
 queR:∀ q,q < 32→Row w own (queTag q) 3 1 (G.q q) (s.t q).queue natC
 old:∀ k,own k≠none→k < w.heap.size
def PRep (w:World) (p:Nat) (s:PS) (own:Own):Prop:=∃ G,PMem w p s own G
theorem len_flagC (f:Nat→Bool):(flagC f).length=16:=by simp [flagC]
theorem len_wrC (x:Wrt):(wrC x).length=64:=by simp [wrC,len_flagC,len_tabV]
theorem len_stepC (x:Stp):(stepC x).length=9:=rfl
theorem len_sesC (s:Ses) (g:SG):(sesC s g).length=79:=by simp [sesC,len_wrC,len_stepC,outC]
theorem len_lkC (l:Lk):(lkC l).length=5:=rfl
theorem len_natC (n:Nat):(natC n).length=1:=rfl
theorem flagC_at (f:Nat→Bool) {k:Nat} (h:k < 16):(flagC f)[k]?=some (.bool (f k)):=by simp [flagC,h]
theorem cell_of_same {w w':World} {b:Nat} (h:w'.heap[b]?=w.heap[b]?) (o:Nat):w'.cell? ⟨b,o,none⟩=w.cell? ⟨b,o,none⟩:=by unfold World.cell?; rw [h]
theorem PMem.frame {w w':World} {p:Nat} {s:PS} {own:Own} {G:PG} (m:PMem w p s own G) (hk:∀ k,own k≠none→w'.heap[k]?=w.heap[k]?) (hz:w.heap.size≤w'.heap.size):PMem w' p s own G:=by
 have hb:=hk p (by rw [m.tag]; simp)
 have hc:=cell_of_same hb
 have hr:∀ {o:Nat} {cs:List Value},w.rangeAt p o cs→w'.rangeAt p o cs:=fun h j u hu=>(hc _).trans (h j u hu)
 have hR:∀ {tag:Tag} b,own b=some tag→w'.heap[b]?=w.heap[b]?:=fun b hb=>hk b (by rw [hb]; simp)
 exact {
  root:=by rw [hb]; exact m.root
  cfg:=hr m.cfg
  items:=fun q h=>hr (m.items q h)
  ses:=fun q h n h'=>hr (m.ses q h n h')
  beg:=fun q h=>(hc _).trans (m.beg q h)
  que:=fun q h=>(hc _).trans (m.que q h)
  tag:=m.tag
  lockR:=fun q h n h'=>(m.lockR q h n h').frame hR (fun _ h=>h)
  outR:=fun q h n h'=>(m.outR q h n h').frame hR (fun _ h=>h)
  begR:=fun q h=>(m.begR q h).frame hR (fun _ h=>h)
  queR:=fun q h=>(m.queR q h).frame hR (fun _ h=>h)
  old:=fun k h=>Nat.lt_of_lt_of_le (m.old k h) hz }
theorem PMem.lt {w:World} {p:Nat} {s:PS} {own:Own} {G:PG} (m:PMem w p s own G):p < w.heap.size:=m.old p (by rw [m.tag]; simp)
theorem PMem.below {w w':World} {p:Nat} {s:PS} {own:Own} {G:PG} (m:PMem w p s own G) (hb:Below w.heap.size w w'):PMem w' p s own G :=
 m.frame (fun k hk=>hb.block k (m.old k hk)) hb.size
theorem PMem.there {w:World} {p:Nat} {s:PS} {own:Own} {G:PG} (m:PMem w p s own G) {o n:Nat} (h:o+n≤11203):w.there p o n:=fun j hj=>by
 obtain ⟨C,hC,hz⟩:=m.root
 refine ⟨?_,frozen_of_row w p _ C _ hC⟩
 rw [cell_of_row w p _ C _ _ hC,Array.getElem?_eq_getElem (by omega)]; rfl
theorem PMem.froz {w:World} {p:Nat} {s:PS} {own:Own} {G:PG} (m:PMem w p s own G) (j:Nat):w.frozen? ⟨p,j,none⟩=false:=by
 obtain ⟨C,hC,hz⟩:=m.root
 exact frozen_of_row w p _ C _ hC
theorem rangeAt_splice {w:World} {b o i:Nat} {cs cs' A M M' Z:List Value} (h:w.rangeAt b o cs) (e:cs=A++(M++Z)) (e':cs'=A++(M'++Z)) (hi:A.length=i) (hl:M'.length=M.length) (ht:w.there b (o+i) M'.length) :
  (w.setCells b (o+i) M').rangeAt b o cs':=by
 subst e e' hi
 intro j v hj
 have out:(j < A.length∨A.length+M'.length≤j)→(w.setCells b (o+A.length) M').cell? ⟨b,o+j,none⟩=w.cell? ⟨b,o+j,none⟩:=fun hc =>
  World.cell?_setCells_out b M' (o+A.length) w ⟨b,o+j,none⟩ (fun _ _=>by show o+j < o+A.length∨o+A.length+M'.length≤o+j; omega)
 by_cases h1:j < A.length
 ·rw [out (.inl h1)]
  refine h j v ?_
  rw [List.getElem?_append_left h1] at hj ⊢
  exact hj
 ·by_cases h2:j < A.length+M'.length
  ·obtain ⟨k,rfl⟩:∃ k,j=A.length+k:=⟨j - A.length,by omega⟩
   rw [List.getElem?_append_right (by omega),List.getElem?_append_left (by omega),Nat.add_sub_cancel_left] at hj
   rw [← Nat.add_assoc]
   exact World.rangeAt_setCells_same w b (o+A.length) M' ht k v hj
  ·rw [out (.inr (by omega))]
   refine h j v ?_
   rw [List.getElem?_append_right (by omega),List.getElem?_append_right (by omega)] at hj ⊢
   rw [hl] at hj; exact hj
structure ChgQ (own:Own) (w w':World) (own':Own):Prop where
 os:w'.os=w.os
 tape:w'.tape=w.tape
 output:w'.output=w.output
 size:w.heap.size≤w'.heap.size
 block:∀ k,k < w.heap.size→own k=none→w'.heap[k]?=w.heap[k]?
 fresh:∀ k,own' k≠none→own k≠none∨w.heap.size≤k
 keep:∀ k x,k < w.heap.size→own k=some (5,x)→w'.heap[k]?=w.heap[k]?∧(own' k=none∨own' k=own k)
theorem ChgQ.of_below {own:Own} {w w':World} (h:Below w.heap.size w w'):ChgQ own w w' own :=
 ⟨h.os,h.tape,h.output,h.size,fun k hk _=>h.block k hk,fun _ h=>.inl h,fun k _ hk _=>⟨h.block k hk,.inr rfl⟩⟩
theorem ChgQ.off {own own':Own} {w w':World} (h:ChgQ own w w' own') {k:Nat} (hk:k < w.heap.size) (hn:own k=none):own' k=none:=by
 cases hq:own' k with
 | none=>rfl
 | some t =>
  rcases h.fresh k (by rw [hq]; simp) with h1 | h1
  ·exact absurd hn h1
  ·omega
theorem ChgQ.trans {own own' own'':Own} {w w' w'':World} (h:ChgQ own w w' own') (k:ChgQ own' w' w'' own''):ChgQ own w w'' own'' where
 os:=k.os.trans h.os
 tape:=k.tape.trans h.tape
 output:=k.output.trans h.output
 size:=Nat.le_trans h.size k.size
 block:=fun b hb hn=>by
  rw [k.block b (Nat.lt_of_lt_of_le hb h.size) (h.off hb hn),h.block b hb hn]
 fresh:=fun b hb=>by
  rcases k.fresh b hb with h1 | h1
  ·exact h.fresh b h1
  ·exact .inr (Nat.le_trans h.size h1)
 keep:=fun b x hb hx=>by
  obtain ⟨h1,h2⟩:=h.keep b x hb hx
  have hb':=Nat.lt_of_lt_of_le hb h.size
  rcases h2 with h2 | h2
  ·refine ⟨by rw [k.block b hb' h2,h1],.inl (k.off hb' h2)⟩
  ·obtain ⟨h3,h4⟩:=k.keep b x hb' (h2.trans hx)
   exact ⟨h3.trans h1,by rw [← h2]; exact h4⟩
theorem setS_t (s:PS) (q n:Nat) (x:Ses) (q':Nat):(s.setS q n x).t q'=if q'=q then (s.t q).setS n x else s.t q':=rfl
theorem Tr.setS_ses (t:Tr) (n:Nat) (x:Ses) (n':Nat):(t.setS n x).ses n'=if n'=n then x else t.ses n':=rfl
theorem PG.setS_s (G:PG) (q n:Nat) (g:SG) (q' n':Nat):(G.setS q n g).s q' n'=if q'=q then (if n'=n then g else G.s q n') else G.s q' n':=by
 unfold PG.setS upd; simp only; split<;>rfl
theorem PMem.setSes {w:World} {p:Nat} {s:PS} {own:Own} {G:PG} (m:PMem w p s own G) {q n:Nat} (hq:q < 32) (hn:n < 4) (x:Ses) (g:SG) {w1:World} {own':Own}
  (hx:∀ k t,own k=some t→t≠lockTag q n→t≠outTag q n→own' k=some t∧(t≠rootTag→w1.heap[k]?=w.heap[k]?))
  (hroot:∃ C,w1.heap[p]?=some (.cells C 138 (0,0))∧C.size=11203)
  (hr:w1.rangeAt p (sO q n) (sesC x g)) (hcell:∀ o,(o < sO q n∨sO q n+79≤o)→w1.cell? ⟨p,o,none⟩=w.cell? ⟨p,o,none⟩)
  (hlk:Row w1 own' (lockTag q n) 148 5 g.1 x.locks lkC) (hout:Row w1 own' (outTag q n) 94 2 g.2 x.out.items itemV)
  (hold:∀ k,own' k≠none→k < w1.heap.size):PMem w1 p (s.setS q n x) own' (G.setS q n g):=by
 have hrow:∀ {α:Type} {tag:Tag} {e size:Nat} {v:Value} {l:List α} {f:α→List Value},tag≠lockTag q n→tag≠outTag q n→tag≠rootTag→Row w own tag e size v l f→Row w1 own' tag e size v l f :=
  fun h1 h2 h3 h=>h.frame (fun k hk=>(hx k _ hk h1 h2).2 h3) (fun k hk=>(hx k _ hk h1 h2).1)
 refine ⟨hroot,?_,?_,?_,?_,?_,(hx p _ m.tag (by intro c; cases c) (by intro c; cases c)).1,?_,?_,?_,?_,hold⟩
 ·intro j u hj
  have hj3:j < 3:=(List.getElem?_eq_some_iff.1 hj).1
  rw [hcell _ (.inl (by unfold sO; omega))]
  exact m.cfg j u hj
 ·intro q' hq' j u hj
  have hj3:j < 32:=by rw [← len_tabV]; exact (List.getElem?_eq_some_iff.1 hj).1
  have hi:((s.setS q n x).t q').items=(s.t q').items:=by rw [setS_t]; split<;>simp_all [Tr.setS]
  rw [hi] at hj
  rw [hcell _ (by unfold sO tO; rcases Nat.lt_trichotomy q' q with h | h | h<;>omega)]
  exact m.items q' hq' j u hj
 ·intro q' hq' n' hn'
  by_cases hqq:q'=q∧n'=n
  ·obtain ⟨rfl,rfl⟩:=hqq
   rw [setS_t,if_pos rfl,Tr.setS_ses,if_pos rfl,PG.setS_s,if_pos rfl,if_pos rfl]; exact hr
  ·have e1:((s.setS q n x).t q').ses n'=(s.t q').ses n':=by
    rw [setS_t]; split
    ·rename_i e; subst e; rw [Tr.setS_ses,if_neg (fun e=>hqq ⟨rfl,e⟩)]
    ·rfl
   have e2:(G.setS q n g).s q' n'=G.s q' n':=by
    rw [PG.setS_s]; split
    ·rename_i e; subst e; rw [if_neg (fun e=>hqq ⟨rfl,e⟩)]
    ·rfl
   rw [e1,e2]
   intro j u hj
   have hj3:j < 79:=by rw [← len_sesC]; exact (List.getElem?_eq_some_iff.1 hj).1
   rw [hcell _ (by
    unfold sO
    by_cases hc:q'=q
    ·have:n'≠n:=fun e=>hqq ⟨hc,e⟩
     subst hc; omega
    ·rcases Nat.lt_trichotomy q' q with h | h | h<;>omega)]
   exact m.ses q' hq' n' hn' j u hj
 ·intro q' hq'
  rw [hcell _ (by unfold sO tO; rcases Nat.lt_trichotomy q' q with h | h | h<;>omega)]
  exact m.beg q' hq'
 ·intro q' hq'
  rw [hcell _ (by unfold sO tO; rcases Nat.lt_trichotomy q' q with h | h | h<;>omega)]
  exact m.que q' hq'
 ·intro q' hq' n' hn'
  by_cases hqq:q'=q∧n'=n
  ·obtain ⟨rfl,rfl⟩:=hqq
   rw [setS_t,if_pos rfl,Tr.setS_ses,if_pos rfl,PG.setS_s,if_pos rfl,if_pos rfl]; exact hlk
  ·have e1:((s.setS q n x).t q').ses n'=(s.t q').ses n':=by
    rw [setS_t]; split
    ·rename_i e; subst e; rw [Tr.setS_ses,if_neg (fun e=>hqq ⟨rfl,e⟩)]
    ·rfl
   have e2:(G.setS q n g).s q' n'=G.s q' n':=by
    rw [PG.setS_s]; split
    ·rename_i e; subst e; rw [if_neg (fun e=>hqq ⟨rfl,e⟩)]
    ·rfl
   rw [e1,e2]
   exact hrow (by intro c; simp only [lockTag,Prod.mk.injEq] at c; exact hqq ⟨by omega,by omega⟩) (by intro c; simp [lockTag,outTag] at c) (by intro c; simp [lockTag,rootTag] at c) (m.lockR q' hq' n' hn')
 ·intro q' hq' n' hn'
  by_cases hqq:q'=q∧n'=n
  ·obtain ⟨rfl,rfl⟩:=hqq
   rw [setS_t,if_pos rfl,Tr.setS_ses,if_pos rfl,PG.setS_s,if_pos rfl,if_pos rfl]; exact hout
  ·have e1:((s.setS q n x).t q').ses n'=(s.t q').ses n':=by
    rw [setS_t]; split
    ·rename_i e; subst e; rw [Tr.setS_ses,if_neg (fun e=>hqq ⟨rfl,e⟩)]
    ·rfl
   have e2:(G.setS q n g).s q' n'=G.s q' n':=by
    rw [PG.setS_s]; split
    ·rename_i e; subst e; rw [if_neg (fun e=>hqq ⟨rfl,e⟩)]
    ·rfl
   rw [e1,e2]
   exact hrow (by intro c; simp [lockTag,outTag] at c) (by intro c; simp only [outTag,Prod.mk.injEq] at c; exact hqq ⟨by omega,by omega⟩) (by intro c; simp [outTag,rootTag] at c) (m.outR q' hq' n' hn')
 ·intro q' hq'
  have hi:((s.setS q n x).t q').begun=(s.t q').begun:=by rw [setS_t]; split<;>simp_all [Tr.setS]
  rw [hi]
  exact hrow (by intro c; simp [begTag,lockTag] at c) (by intro c; simp [begTag,outTag] at c) (by intro c; simp [begTag,rootTag] at c) (m.begR q' hq')
 ·intro q' hq'
  have hi:((s.setS q n x).t q').queue=(s.t q').queue:=by rw [setS_t]; split<;>simp_all [Tr.setS]
  rw [hi]
  exact hrow (by intro c; simp [queTag,lockTag] at c) (by intro c; simp [queTag,outTag] at c) (by intro c; simp [queTag,rootTag] at c) (m.queR q' hq')
def PS.setB (s:PS) (q:Nat) (l:List Nat):PS:=s.setT q { s.t q with begun:=l }
def PS.setQ (s:PS) (q:Nat) (l:List Nat):PS:=s.setT q { s.t q with queue:=l }
def PS.setI (s:PS) (q:Nat) (f:Nat→Option Int):PS:=s.setT q { s.t q with items:=f }
theorem setB_t (s:PS) (q:Nat) (l:List Nat) (q':Nat):(s.setB q l).t q'=if q'=q then { s.t q with begun:=l } else s.t q':=rfl
theorem setQ_t (s:PS) (q:Nat) (l:List Nat) (q':Nat):(s.setQ q l).t q'=if q'=q then { s.t q with queue:=l } else s.t q':=rfl
theorem setI_t (s:PS) (q:Nat) (f:Nat→Option Int) (q':Nat):(s.setI q f).t q'=if q'=q then { s.t q with items:=f } else s.t q':=rfl
theorem PMem.setBeg {w:World} {p:Nat} {s:PS} {own:Own} {G:PG} (m:PMem w p s own G) {q:Nat} (hq:q < 32) (l:List Nat) (v:Value) {w1:World} {own':Own}
  (hx:∀ k t,own k=some t→t≠begTag q→own' k=some t∧(t≠rootTag→w1.heap[k]?=w.heap[k]?))
  (hroot:∃ C,w1.heap[p]?=some (.cells C 138 (0,0))∧C.size=11203)
  (hr:w1.cell? ⟨p,tO q+348,none⟩=some v) (hcell:∀ o,o≠tO q+348→w1.cell? ⟨p,o,none⟩=w.cell? ⟨p,o,none⟩)
  (hR:Row w1 own' (begTag q) 3 1 v l natC)
  (hold:∀ k,own' k≠none→k < w1.heap.size):PMem w1 p (s.setB q l) own' (G.setB q v):=by
 have hrow:∀ {α:Type} {tag:Tag} {e size:Nat} {v:Value} {l:List α} {f:α→List Value},tag≠begTag q→tag≠rootTag→Row w own tag e size v l f→Row w1 own' tag e size v l f :=
  fun h1 h3 h=>h.frame (fun k hk=>(hx k _ hk h1).2 h3) (fun k hk=>(hx k _ hk h1).1)
 have e1:∀ q',((s.setB q l).t q').items=(s.t q').items∧((s.setB q l).t q').ses=(s.t q').ses∧((s.setB q l).t q').queue=(s.t q').queue:=by
  intro q'; rw [setB_t]; split<;>simp_all
 refine ⟨hroot,?_,?_,?_,?_,?_,(hx p _ m.tag (by intro c; cases c)).1,?_,?_,?_,?_,hold⟩
 ·intro j u hj
  have hj3:j < 3:=(List.getElem?_eq_some_iff.1 hj).1
  rw [hcell _ (by unfold tO; omega)]
  exact m.cfg j u hj
 ·intro q' hq' j u hj
  have hj3:j < 32:=by rw [← len_tabV]; exact (List.getElem?_eq_some_iff.1 hj).1
  rw [(e1 q').1] at hj
  rw [hcell _ (by unfold tO; rcases Nat.lt_trichotomy q' q with h | h | h<;>omega)]
  exact m.items q' hq' j u hj
 ·intro q' hq' n' hn'
  rw [(e1 q').2.1]
  intro j u hj
  have hj3:j < 79:=by rw [← len_sesC]; exact (List.getElem?_eq_some_iff.1 hj).1
  rw [hcell _ (by unfold sO tO; rcases Nat.lt_trichotomy q' q with h | h | h<;>omega)]
  exact m.ses q' hq' n' hn' j u hj
 ·intro q' hq'
  show w1.cell? _=some (upd G.b q v q')
  unfold upd; split
  ·rename_i e; subst e; exact hr
  ·rw [hcell _ (by unfold tO; omega)]; exact m.beg q' hq'
 ·intro q' hq'
  rw [hcell _ (by unfold tO; omega)]
  exact m.que q' hq'
 ·intro q' hq' n' hn'
  rw [(e1 q').2.1]
  exact hrow (by intro c; simp [lockTag,begTag] at c) (by intro c; simp [lockTag,rootTag] at c) (m.lockR q' hq' n' hn')
 ·intro q' hq' n' hn'
  rw [(e1 q').2.1]
  exact hrow (by intro c; simp [outTag,begTag] at c) (by intro c; simp [outTag,rootTag] at c) (m.outR q' hq' n' hn')
 ·intro q' hq'
  show Row w1 own' (begTag q') _ _ (upd G.b q v q') _ _
  rw [setB_t]
  unfold upd; split
  ·rename_i e; subst e; exact hR
  ·rename_i e
   exact hrow (by intro c; simp only [begTag,Prod.mk.injEq] at c; omega) (by intro c; simp [begTag,rootTag] at c) (m.begR q' hq')
 ·intro q' hq'
  rw [(e1 q').2.2]
  exact hrow (by intro c; simp [queTag,begTag] at c) (by intro c; simp [queTag,rootTag] at c) (m.queR q' hq')
theorem PMem.setQue {w:World} {p:Nat} {s:PS} {own:Own} {G:PG} (m:PMem w p s own G) {q:Nat} (hq:q < 32) (l:List Nat) (v:Value) {w1:World} {own':Own}
  (hx:∀ k t,own k=some t→t≠queTag q→own' k=some t∧(t≠rootTag→w1.heap[k]?=w.heap[k]?))
  (hroot:∃ C,w1.heap[p]?=some (.cells C 138 (0,0))∧C.size=11203)
  (hr:w1.cell? ⟨p,tO q+349,none⟩=some v) (hcell:∀ o,o≠tO q+349→w1.cell? ⟨p,o,none⟩=w.cell? ⟨p,o,none⟩)
  (hR:Row w1 own' (queTag q) 3 1 v l natC)
  (hold:∀ k,own' k≠none→k < w1.heap.size):PMem w1 p (s.setQ q l) own' (G.setQ q v):=by
 have hrow:∀ {α:Type} {tag:Tag} {e size:Nat} {v:Value} {l:List α} {f:α→List Value},tag≠queTag q→tag≠rootTag→Row w own tag e size v l f→Row w1 own' tag e size v l f :=
  fun h1 h3 h=>h.frame (fun k hk=>(hx k _ hk h1).2 h3) (fun k hk=>(hx k _ hk h1).1)
 have e1:∀ q',((s.setQ q l).t q').items=(s.t q').items∧((s.setQ q l).t q').ses=(s.t q').ses∧((s.setQ q l).t q').begun=(s.t q').begun:=by
  intro q'; rw [setQ_t]; split<;>simp_all
 refine ⟨hroot,?_,?_,?_,?_,?_,(hx p _ m.tag (by intro c; cases c)).1,?_,?_,?_,?_,hold⟩
 ·intro j u hj
  have hj3:j < 3:=(List.getElem?_eq_some_iff.1 hj).1
  rw [hcell _ (by unfold tO; omega)]
  exact m.cfg j u hj
 ·intro q' hq' j u hj
  have hj3:j < 32:=by rw [← len_tabV]; exact (List.getElem?_eq_some_iff.1 hj).1
  rw [(e1 q').1] at hj
  rw [hcell _ (by unfold tO; rcases Nat.lt_trichotomy q' q with h | h | h<;>omega)]
  exact m.items q' hq' j u hj
 ·intro q' hq' n' hn'
  rw [(e1 q').2.1]
  intro j u hj
  have hj3:j < 79:=by rw [← len_sesC]; exact (List.getElem?_eq_some_iff.1 hj).1
  rw [hcell _ (by unfold sO tO; rcases Nat.lt_trichotomy q' q with h | h | h<;>omega)]
  exact m.ses q' hq' n' hn' j u hj
 ·intro q' hq'
  rw [hcell _ (by unfold tO; omega)]
  exact m.beg q' hq'
 ·intro q' hq'
  show w1.cell? _=some (upd G.q q v q')
  unfold upd; split
  ·rename_i e; subst e; exact hr
  ·rw [hcell _ (by unfold tO; omega)]; exact m.que q' hq'
 ·intro q' hq' n' hn'
  rw [(e1 q').2.1]
  exact hrow (by intro c; simp [lockTag,queTag] at c) (by intro c; simp [lockTag,rootTag] at c) (m.lockR q' hq' n' hn')
 ·intro q' hq' n' hn'
  rw [(e1 q').2.1]
  exact hrow (by intro c; simp [outTag,queTag] at c) (by intro c; simp [outTag,rootTag] at c) (m.outR q' hq' n' hn')
 ·intro q' hq'
  rw [(e1 q').2.2]
  exact hrow (by intro c; simp [queTag,begTag] at c) (by intro c; simp [begTag,rootTag] at c) (m.begR q' hq')
 ·intro q' hq'
  show Row w1 own' (queTag q') _ _ (upd G.q q v q') _ _
  rw [setQ_t]
  unfold upd; split
  ·rename_i e; subst e; exact hR
  ·rename_i e
   exact hrow (by intro c; simp only [queTag,Prod.mk.injEq] at c; omega) (by intro c; simp [queTag,rootTag] at c) (m.queR q' hq')
theorem PMem.setItems {w:World} {p:Nat} {s:PS} {own:Own} {G:PG} (m:PMem w p s own G) {q:Nat} (hq:q < 32) (f:Nat→Option Int) :
  PMem (w.setCells p (tO q) (tabV f)) p (s.setI q f) own G∧ChgQ own w (w.setCells p (tO q) (tabV f)) own:=by
 obtain ⟨C,hC,hCz⟩:=m.root
 obtain ⟨C',hC',hCz'⟩:=setCells_root (tabV f) (tO q) w C hC
 have hsame:∀ k,k≠p→(w.setCells p (tO q) (tabV f)).heap[k]?=w.heap[k]?:=fun k hk=>setCells_other _ _ _ _ hk
 have hkb:=World.keptBut_setCells p (may:=fun _=>True) (tabV f) (tO q) w (fun _ _=>trivial)
 have hcell:∀ o,(o < tO q∨tO q+32≤o)→(w.setCells p (tO q) (tabV f)).cell? ⟨p,o,none⟩=w.cell? ⟨p,o,none⟩:=fun o ho =>
  World.cell?_setCells_out p (tabV f) (tO q) w ⟨p,o,none⟩ (fun _ _=>by rw [len_tabV]; exact ho)
 have hth:w.there p (tO q) (tabV f).length:=m.there (by rw [len_tabV]; unfold tO; omega)
 have hne:∀ k t,own k=some t→t≠rootTag→k≠p:=fun k t hk ht e=>by
  rw [e,m.tag] at hk; exact ht (Option.some.inj hk).symm
 have hrow:∀ {α:Type} {tag:Tag} {e size:Nat} {v:Value} {l:List α} {f':α→List Value},tag≠rootTag→Row w own tag e size v l f'→Row (w.setCells p (tO q) (tabV f)) own tag e size v l f' :=
  fun h3 h=>h.frame (fun k hk=>hsame k (hne k _ hk h3)) (fun k hk=>hk)
 have e1:∀ q',((s.setI q f).t q').begun=(s.t q').begun∧((s.setI q f).t q').ses=(s.t q').ses∧((s.setI q f).t q').queue=(s.t q').queue:=by
  intro q'; rw [setI_t]; split<;>simp_all
 refine ⟨⟨⟨C',hC',by omega⟩,?_,?_,?_,?_,?_,m.tag,?_,?_,?_,?_,fun k hk=>by rw [setCells_size]; exact m.old k hk⟩,?_⟩
 ·intro j u hj
  have hj3:j < 3:=(List.getElem?_eq_some_iff.1 hj).1
  rw [hcell _ (by unfold tO; omega)]
  exact m.cfg j u hj
 ·intro q' hq'
  rw [setI_t]
  split
  ·rename_i e; subst e; exact World.rangeAt_setCells_same w p (tO q') (tabV f) hth
  ·intro j u hj
   have hj3:j < 32:=by rw [← len_tabV]; exact (List.getElem?_eq_some_iff.1 hj).1
   rw [hcell _ (by unfold tO; omega)]
   exact m.items q' hq' j u hj
 ·intro q' hq' n' hn'
  rw [(e1 q').2.1]
  intro j u hj
  have hj3:j < 79:=by rw [← len_sesC]; exact (List.getElem?_eq_some_iff.1 hj).1
  rw [hcell _ (by unfold sO tO; rcases Nat.lt_trichotomy q' q with h | h | h<;>omega)]
  exact m.ses q' hq' n' hn' j u hj
 ·intro q' hq'
  rw [hcell _ (by unfold tO; omega)]
  exact m.beg q' hq'
 ·intro q' hq'
  rw [hcell _ (by unfold tO; omega)]
  exact m.que q' hq'
 ·intro q' hq' n' hn'
  rw [(e1 q').2.1]
  exact hrow (by intro c; simp [lockTag,rootTag] at c) (m.lockR q' hq' n' hn')
 ·intro q' hq' n' hn'
  rw [(e1 q').2.1]
  exact hrow (by intro c; simp [outTag,rootTag] at c) (m.outR q' hq' n' hn')
 ·intro q' hq'
  rw [(e1 q').1]
  exact hrow (by intro c; simp [begTag,rootTag] at c) (m.begR q' hq')
 ·intro q' hq'
  rw [(e1 q').2.2]
  exact hrow (by intro c; simp [queTag,rootTag] at c) (m.queR q' hq')
 ·exact ⟨hkb.1,setCells_tape _ _ _,hkb.2.1,by rw [setCells_size]; exact Nat.le_refl _,fun k _ hn=>hsame k (fun e=>by rw [e,m.tag] at hn; cases hn),fun k hk=>.inl hk,
   fun k x _ hk=>⟨hsame k (hne k _ hk (by intro c; simp [rootTag] at c)),.inr rfl⟩⟩
theorem PMem.putSes {w:World} {p:Nat} {s:PS} {own:Own} {G:PG} (m:PMem w p s own G) {q n:Nat} (hq:q < 32) (hn:n < 4) (x:Ses) (g:SG) (i:Nat) (M':List Value) {A M Z:List Value} {own':Own}
  (e:sesC ((s.t q).ses n) (G.s q n)=A++(M++Z)) (e':sesC x g=A++(M'++Z)) (hi:A.length=i) (hl:M'.length=M.length)
  (hx:∀ k t,own k=some t→t≠lockTag q n→t≠outTag q n→own' k=some t) (hsub:∀ k t,own' k=some t→own k=some t)
  (hlk:Row w own' (lockTag q n) 148 5 g.1 x.locks lkC) (hout:Row w own' (outTag q n) 94 2 g.2 x.out.items itemV) :
  PMem (w.setCells p (sO q n+i) M') p (s.setS q n x) own' (G.setS q n g)∧ChgQ own w (w.setCells p (sO q n+i) M') own':=by
 have hlen:A.length+(M'.length+Z.length)=79:=by
  rw [← len_sesC x g,e']; simp
 obtain ⟨C,hC,hCz⟩:=m.root
 obtain ⟨C',hC',hCz'⟩:=setCells_root M' (sO q n+i) w C hC
 have hsame:∀ k,k≠p→(w.setCells p (sO q n+i) M').heap[k]?=w.heap[k]?:=fun k hk=>setCells_other _ _ _ _ hk
 have hkb:=World.keptBut_setCells p (may:=fun _=>True) M' (sO q n+i) w (fun _ _=>trivial)
 have hcell:∀ o,(o < sO q n∨sO q n+79≤o)→(w.setCells p (sO q n+i) M').cell? ⟨p,o,none⟩=w.cell? ⟨p,o,none⟩:=fun o ho =>
  World.cell?_setCells_out p M' (sO q n+i) w ⟨p,o,none⟩ (fun _ _=>by show o < sO q n+i∨sO q n+i+M'.length≤o; omega)
 have hth:w.there p (sO q n+i) M'.length:=m.there (by unfold sO; omega)
 have hne:∀ k t,own k=some t→t≠rootTag→k≠p:=fun k t hk ht e=>by
  rw [e,m.tag] at hk; exact ht (Option.some.inj hk).symm
 refine ⟨m.setSes hq hn x g (fun k t hk h1 h2=>⟨hx k t hk h1 h2,fun ht=>hsame k (hne k t hk ht)⟩) ⟨C',hC',by omega⟩ (rangeAt_splice (m.ses q hq n hn) e e' hi hl hth) hcell
  (hlk.frame (fun k hk=>hsame k (hne k _ (hsub k _ hk) (by intro c; simp [lockTag,rootTag] at c))) (fun _ h=>h))
  (hout.frame (fun k hk=>hsame k (hne k _ (hsub k _ hk) (by intro c; simp [outTag,rootTag] at c))) (fun _ h=>h))
  (fun k hk=>by
   rw [setCells_size]
   obtain ⟨t,ht⟩:=Option.ne_none_iff_exists'.1 hk
   exact m.old k (by rw [hsub k t ht]; simp)),?_⟩
 exact ⟨hkb.1,setCells_tape _ _ _,hkb.2.1,by rw [setCells_size]; exact Nat.le_refl _,fun k _ hn=>hsame k (fun e=>by rw [e,m.tag] at hn; cases hn),fun k hk=>by
   obtain ⟨t,ht⟩:=Option.ne_none_iff_exists'.1 hk
   exact .inl (by rw [hsub k t ht]; simp),
   fun k y _ hk=>⟨hsame k (hne k _ hk (by intro c; simp [rootTag] at c)),.inr (by rw [hx k _ hk (by intro c; simp [lockTag] at c) (by intro c; simp [outTag] at c),hk])⟩⟩
def placeOf (l c:Int):Nat:=(l*8+c).toNat
theorem placeOf_eq {l c:Int} (h:labB l c=true):l*8+c=(placeOf l c:Int)∧placeOf l c < 32:=by
 obtain ⟨h1,h2,h3,h4⟩:=labB_t h
 unfold placeOf
 omega
theorem place_nat (l c:Int) (w:World) (h:labB l c=true) :
  Calls Try.prog 60 #[.agg #[.int .i64 l,.int .i64 c]] w fun e w'=>e=.returned (.tuple #[.int .i64 (placeOf l c),.bool true])∧Below w.heap.size w w':=by
 have:=place_yes l c w h
 rw [(placeOf_eq h).1] at this
 exact this
theorem look_yes (p:Nat) (l c:Int) (T:Nat→Option Int) (w:World) (h:labB l c=true) (hr:w.rangeAt p (3+placeOf l c*350) (tabV T)) (hp:p < w.heap.size) :
  Calls Try.prog 31 #[.pointer (some ⟨p,0,none⟩),.agg #[.int .i64 l,.int .i64 c]] w fun e w' =>
   ∃ v,e=.returned (.tuple #[v,.int .i64 0])∧w'.ownsRow w.heap.size 94 2 v (listTo T 0 15 16).length (itemsV (listTo T 0 15 16))∧Below w.heap.size w w':=by
 have hlt:=(placeOf_eq h).2
 go_enter Try.func31,Try.ntmps31
 go_wp2_with fail
 refine (place_nat l c _ h).mono ?_
 rintro e w1 ⟨rfl,hb⟩
 have hb0:Below w.heap.size w w1:=((Below.refl _ _).alloc (Nat.le_refl _) _).trans (hb.mono (by simp))
 have hr1:=rangeAt_below hr hb0 hp
 have zi:(placeOf l c:Int) < 32:=by omega
 generalize placeOf l c=q at *
 go_wp2_with fail
 refine (list_any p (3+q*350) T 0 15 _ hr1).mono ?_
 rintro e w2 ⟨v,rfl,hown,hb2⟩
 go_wp2
 go_ret2
 refine ⟨v,rfl,?_,hb0.trans (hb2.mono hb0.size)⟩
 obtain ⟨hl,ho⟩:=hown
 refine ⟨hl,?_⟩
 have hsz:=hb0.size
 rcases ho with h | ⟨b,c,d,e1,e2,e3⟩
 ·exact .inl h
 ·exact .inr ⟨b,c,d,e1,by omega,e3⟩
theorem look_no (p:Nat) (l c:Int) (w:World) (h:labB l c=false) :
  Calls Try.prog 31 #[.pointer (some ⟨p,0,none⟩),.agg #[.int .i64 l,.int .i64 c]] w fun e w' =>
   e=.returned (.tuple #[.slice none 0 0,.int .i64 2])∧Below w.heap.size w w':=by
 go_enter Try.func31,Try.ntmps31
 go_wp2_with fail
 refine (place_no l c _ h).mono ?_
 rintro e w1 ⟨rfl,hb⟩
 have hb0:Below w.heap.size w w1:=((Below.refl _ _).alloc (Nat.le_refl _) _).trans (hb.mono (by simp))
 go_wp2
 go_ret2
 exact ⟨rfl,hb0⟩
end Go.Proofs.Ytpbcplfpjcacfaa
