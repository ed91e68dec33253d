import Derived.Test.YtpbcplfpjcacfaaF28
import Derived.Test.YtpbcplfpjcacfaaT20
namespace Go.Proofs.Ytpbcplfpjcacfaa
open Go.RowKit
attribute [local go_sem ↓] Go.wp_at_zero Go.wp_at_succ
set_option maxRecDepth 100000
set_option maxHeartbeats 8000000
theorem EntPost.still {P:Pgm} {w w':World} {bb p r:Nat} {s:P.S} {st:RS} {ownP ownR:Own} {l:List (Int × Int)} {v:Value} (hB:BothAt P w bb p r s st ownP ownR) (hb:Below w.heap.size w w') (hv:w'.ownsRow w.heap.size 94 2 v l.length (itemsV l)) :
  EntPost P (ownP.or ownR) w bb p r s st l (.returned (.tuple #[v,.bool true])) w' :=
 ⟨v,rfl,ownP,ownR,ownsRow_lower hv (Nat.zero_le _),hB.below hb,ChgD.of_below hb,fun b h=>by
  have hlt:=(hv.lt b h).1
  refine ⟨?_,.inr hlt⟩
  cases hq:ownP.or ownR b with
  | none=>rfl
  | some t=>have:=hB.old b (by rw [hq]; simp); omega⟩
theorem bothLooked_yes (P:Pgm) {N:Nat} (bb p r:Nat) (s:P.S) (st:RS) (ownP ownR:Own) (l c:Int) (w:World) (h:labB l c=true) (hB:BothAt P w bb p r s st ownP ownR) (hok:P.Ok N s) (hsame:P.look s (l,c)=st.lookTo (l,c) 16) :
  Calls Try.prog 47 #[.pointer (some ⟨bb,0,none⟩),.agg #[.int .i64 l,.int .i64 c]] w (EntPost P (ownP.or ownR) w bb p r s st (st.lookTo (l,c) 16)):=by
 have HB:Hid (BothAt P w bb p r s st ownP ownR):=hB
 have hlk:∀ W,Below w.heap.size w W→Calls Try.prog 31 #[.pointer (some ⟨p,0,none⟩),.agg #[.int .i64 l,.int .i64 c]] W fun e w'=>∃ v,e=.returned (.tuple #[v,.int .i64 0])∧w'.ownsRow W.heap.size 94 2 v (st.lookTo (l,c) 16).length (itemsV (st.lookTo (l,c) 16))∧Below W.heap.size W w':=fun W hW=>by
  have:=P.lookYes l c (P.below hB.rp hW) hok h
  rw [hsame] at this
  exact this
 have HL:Hid (type_of% hlk):=hlk
 obtain ⟨hb0,hb1⟩:=both_cells hB.blk
 have hm:=hB.rr
 clear hsame hlk hB hok
 have n0:=World.new_ne w _ hb0
 have n1:=World.new_ne w _ hb1
 go_enter Try.func47,Try.ntmps47
 go_wp2_with fail
 have hA:Below w.heap.size w (w.alloc (.cells #[.int .i64 l,.int .i64 c] 25)):=(Below.refl _ _).alloc (Nat.le_refl _) _
 go_region_held3 (fun w'=>w'.cell? ⟨bb,0,none⟩=some (.pointer (some ⟨p,0,none⟩))∧w'.cell? ⟨w.heap.size,0,none⟩=some (.int .i64 l)∧w'.cell? ⟨w.heap.size,1,none⟩=some (.int .i64 c)) (first | go_keep | (go_split_ands; (repeat' constructor)<;>exact cell_later hb2 (by assumption)))
  (first | (go_at_call 31; refine (HL.out _ hA.drew).mono ?_; rintro e w2 ⟨v,rfl,hown,hb2⟩))
 have hB2:Below w.heap.size w w2:=hA.drew.trans (hb2.mono (by simp))
 have c0:w2.cell? ⟨w.heap.size,0,none⟩=some (.int .i64 l):=by rw [hb2.cell (p:=⟨w.heap.size,0,none⟩) (by simp)]; simp
 have c1:w2.cell? ⟨w.heap.size,1,none⟩=some (.int .i64 c):=by rw [hb2.cell (p:=⟨w.heap.size,1,none⟩) (by simp)]; simp
 have hown2:=ownsRow_lower hown (B':=w.heap.size) (by simp)
 have s1:w2.cell? ⟨bb,1,none⟩=some (.pointer (some ⟨r,0,none⟩)):=cell_later hB2 hb1
 have z2:w.heap.size < w2.heap.size:=by have:=hb2.size; simp at this; omega
 clear hown hb2 hb0 n0 n1
 go_wp2_with fail
 refine (isLabel_any l c _).mono ?_
 rintro e w3 ⟨rfl,hb3⟩
 rw [h]
 have hB3:Below w.heap.size w w3:=hB2.trans (hb3.mono (by omega))
 have d0:=cell_later hb3 c0
 have d1:=cell_later hb3 c1
 have t1:=cell_later hb3 s1
 have hown3:=ownsRow_below hown2 hb3
 have z3:w.heap.size < w3.heap.size:=by have:=hb3.size; omega
 have hm3:=hm.below hB3
 clear c0 c1 s1 hown2 hb3 hb1
 go_wp2_with fail
 go_region_held3 (fun w'=>w'.cell? ⟨bb,1,none⟩=some (.pointer (some ⟨r,0,none⟩))∧w'.cell? ⟨w.heap.size,0,none⟩=some (.int .i64 l)∧w'.cell? ⟨w.heap.size,1,none⟩=some (.int .i64 c)) (first | go_keep | (go_split_ands; (repeat' constructor)<;>exact cell_later hb4 (by assumption)))
  (first | (go_at_call 65; refine (refLook_any r st ownR l c _ (hm3.below ((Below.refl _ _).drew))).mono ?_; rintro e w4 ⟨v2,rfl,hownr,hb4⟩))
 have hb4':Below w3.heap.size w3 w4:=((Below.refl _ _).drew).trans hb4
 have hB4:Below w.heap.size w w4:=hB3.trans (hb4'.mono (by omega))
 have hown4:=ownsRow_below hown3 hb4'
 have i1:=ownsRow_items hown4
 have i2:=ownsRow_items hownr
 clear hown3 hownr hb4
 go_wp2_with fail
 refine (num_any 0 _).mono ?_
 rintro e w5 ⟨rfl,rfl⟩
 go_wp2_with fail
 refine (sameItems_is i1 i2).mono ?_
 rintro e w6 ⟨rfl,hb6⟩
 go_wp2
 go_ret2
 exact EntPost.still HB.out (hB4.trans (hb6.mono hB4.size)) (ownsRow_below hown4 hb6)
theorem bothLooked_no (P:Pgm) {N:Nat} (bb p r:Nat) (s:P.S) (st:RS) (ownP ownR:Own) (l c:Int) (w:World) (h:labB l c=false) (hB:BothAt P w bb p r s st ownP ownR) (hok:P.Ok N s) :
  Calls Try.prog 47 #[.pointer (some ⟨bb,0,none⟩),.agg #[.int .i64 l,.int .i64 c]] w (EntPost P (ownP.or ownR) w bb p r s st []):=by
 have HB:Hid (BothAt P w bb p r s st ownP ownR):=hB
 have HL:Hid (∀ W,Below w.heap.size w W→Calls Try.prog 31 #[.pointer (some ⟨p,0,none⟩),.agg #[.int .i64 l,.int .i64 c]] W fun e w'=>e=.returned (.tuple #[.slice none 0 0,.int .i64 2])∧Below W.heap.size W w'):=fun W hW=>P.lookNo l c (P.below hB.rp hW) hok h
 obtain ⟨hb0,hb1⟩:=both_cells hB.blk
 clear hB hok
 have n0:=World.new_ne w _ hb0
 go_enter Try.func47,Try.ntmps47
 go_wp2_with fail
 have hA:Below w.heap.size w (w.alloc (.cells #[.int .i64 l,.int .i64 c] 25)):=(Below.refl _ _).alloc (Nat.le_refl _) _
 go_region_held3 (fun w'=>w'.cell? ⟨bb,0,none⟩=some (.pointer (some ⟨p,0,none⟩))∧w'.cell? ⟨w.heap.size,0,none⟩=some (.int .i64 l)∧w'.cell? ⟨w.heap.size,1,none⟩=some (.int .i64 c)) (first | go_keep | (go_split_ands; (repeat' constructor)<;>exact cell_later hb2 (by assumption)))
  (first | (go_at_call 31; refine (HL.out _ hA.drew).mono ?_; rintro e w2 ⟨rfl,hb2⟩))
 have hB2:Below w.heap.size w w2:=hA.drew.trans (hb2.mono (by simp))
 have c0:w2.cell? ⟨w.heap.size,0,none⟩=some (.int .i64 l):=by rw [hb2.cell (p:=⟨w.heap.size,0,none⟩) (by simp)]; simp
 have c1:w2.cell? ⟨w.heap.size,1,none⟩=some (.int .i64 c):=by rw [hb2.cell (p:=⟨w.heap.size,1,none⟩) (by simp)]; simp
 clear hb2 hb0 n0
 go_wp2_with fail
 refine (isLabel_any l c _).mono ?_
 rintro e w3 ⟨rfl,hb3⟩
 rw [h]
 have hB3:Below w.heap.size w w3:=hB2.trans (hb3.mono hB2.size)
 clear hb3
 go_wp2_with fail
 refine (num_any 2 _).mono ?_
 rintro e w5 ⟨rfl,rfl⟩
 go_wp2
 go_ret2
 exact EntPost.still HB.out hB3 (World.ownsRow_nil _ _ _ _)
def BegunPost (P:Pgm) (w:World) (k v c:Int) (e:Ending) (w':World):Prop :=
 ∃ bb p r ownP ownR,e=.returned (.tuple #[.pointer (some ⟨bb,0,none⟩),.bool true])∧Below w.heap.size w w'∧w.heap.size≤bb∧BothAt P w' bb p r (P.start k v c) (st0 k v c) ownP ownR∧∀ k,ownP.or ownR k≠none→w.heap.size≤k
theorem bothBegun_yes (P:Pgm) (k v c:Int) (w:World) (h:mayB k v c=true) :
  Calls Try.prog 17 #[.agg #[.int .i64 k,.int .i64 v,.int .i64 c]] w (BegunPost P w k v c):=by
 have HN:Hid (∀ w,Calls Try.prog 41 #[.agg #[.int .i64 k,.int .i64 v,.int .i64 c]] w fun e w'=>∃ p own,e=.returned (.tuple #[.pointer (some ⟨p,0,none⟩),.int .i64 0])∧Below w.heap.size w w'∧(∀ k,own k≠none→w.heap.size≤k)∧P.Rep w' p (P.start k v c) own):=fun w=>P.newYes k v c w h
 go_enter Try.func17,Try.ntmps17
 go_wp2_with fail
 refine (HN.out _).mono ?_
 rintro e w1 ⟨p,ownP,rfl,hb1,hfr,hrep⟩
 have hB1:Below w.heap.size w w1:=((Below.refl _ _).alloc (Nat.le_refl _) _).trans (hb1.mono (by simp))
 have c0:w1.cell? ⟨w.heap.size,0,none⟩=some (.int .i64 k):=by rw [hb1.cell (p:=⟨w.heap.size,0,none⟩) (by simp)]; simp
 have c1:w1.cell? ⟨w.heap.size,1,none⟩=some (.int .i64 v):=by rw [hb1.cell (p:=⟨w.heap.size,1,none⟩) (by simp)]; simp
 have c2:w1.cell? ⟨w.heap.size,2,none⟩=some (.int .i64 c):=by rw [hb1.cell (p:=⟨w.heap.size,2,none⟩) (by simp)]; simp
 have z1:w.heap.size < w1.heap.size:=by have:=hb1.size; simp at this; omega
 have HRep:Hid (P.Rep w1 p (P.start k v c) ownP):=hrep
 have HFR:Hid (∀ k,ownP k≠none→w.heap.size < k):=fun k hk=>by have:=hfr k hk; simp at this; omega
 clear hb1 hrep hfr
 go_wp2_with fail
 refine (may_any k v c _).mono ?_
 rintro e w2 ⟨rfl,hb2⟩
 rw [h]
 have hB2:Below w.heap.size w w2:=hB1.trans (hb2.mono (by omega))
 have z2:w.heap.size < w2.heap.size:=by have:=hb2.size; omega
 have q0:=cell_later hb2 c0
 have q1:=cell_later hb2 c1
 have q2:=cell_later hb2 c2
 have HRep2:Hid (P.Rep w2 p (P.start k v c) ownP):=P.below HRep.out hb2
 clear hb2 c0 c1 c2
 go_wp2_with fail
 refine (num_any 0 _).mono ?_
 rintro e w5 ⟨rfl,rfl⟩
 go_wp2_with fail
 refine (refnew_any k v c _).mono ?_
 rintro e w5 ⟨rfl,rfl⟩
 go_wp2
 go_ret2
 have hU:Below w2.heap.size w2 (((w2.alloc (.cells #[.int .i64 k,.int .i64 v,.int .i64 c] 23)).alloc (.cells #[.int .i64 k,.int .i64 v,.int .i64 c,.slice none 0 0,.slice none 0 0,.slice none 0 0,.slice none 0 0,.int .i64 0,.int .i64 0] 106)).alloc (.cells #[.pointer (some ⟨p,0,none⟩),.pointer (some ⟨w2.heap.size+1,0,none⟩)] 43)) :=
  (((Below.refl _ _).alloc (Nat.le_refl _) _).alloc (by simp) _).alloc (by simp; omega) _
 refine ⟨w2.heap.size+1+1,p,w2.heap.size+1,ownP,own0 (w2.heap.size+1),rfl,hB2.trans (hU.mono hB2.size),by omega,⟨?_,P.below HRep2.out hU,rep0 ?_,?_,?_,?_⟩,?_⟩
 ·have:=heap_alloc_new ((w2.alloc (.cells #[.int .i64 k,.int .i64 v,.int .i64 c] 23)).alloc (.cells #[.int .i64 k,.int .i64 v,.int .i64 c,.slice none 0 0,.slice none 0 0,.slice none 0 0,.slice none 0 0,.int .i64 0,.int .i64 0] 106)) (.cells #[.pointer (some ⟨p,0,none⟩),.pointer (some ⟨w2.heap.size+1,0,none⟩)] 43 (0,0))
  simpa using this
 ·rw [Below.heap_alloc _ _ _ (by simp)]
  have:=heap_alloc_new (w2.alloc (.cells #[.int .i64 k,.int .i64 v,.int .i64 c] 23)) (.cells #[.int .i64 k,.int .i64 v,.int .i64 c,.slice none 0 0,.slice none 0 0,.slice none 0 0,.slice none 0 0,.int .i64 0,.int .i64 0] 106 (0,0))
  simpa using this
 ·intro q hq
  have:=P.old HRep2.out q hq
  cases ho:own0 (w2.heap.size+1) q with
  | none=>rfl
  | some t=>have:=own0_at (r:=w2.heap.size+1) (k:=q) (by rw [ho]; simp); omega
 ·cases ho:ownP (w2.heap.size+1+1) with
  | none=>rfl
  | some t=>have:=P.old HRep2.out _ (by rw [ho]; simp:ownP (w2.heap.size+1+1)≠none); omega
 ·cases ho:own0 (w2.heap.size+1) (w2.heap.size+1+1) with
  | none=>rfl
  | some t=>have:=own0_at (r:=w2.heap.size+1) (k:=w2.heap.size+1+1) (by rw [ho]; simp); omega
 ·intro q hq
  cases ho:ownP q with
  | some t=>have:=HFR.out q (by rw [ho]; simp); omega
  | none =>
   have:=own0_at (r:=w2.heap.size+1) (k:=q) (fun e=>hq (Own.or_none.2 ⟨ho,e⟩))
   omega
theorem bothBegun_no (P:Pgm) (k v c:Int) (w:World) (h:mayB k v c=false) :
  Calls Try.prog 17 #[.agg #[.int .i64 k,.int .i64 v,.int .i64 c]] w fun e w' =>
   e=.returned (.tuple #[.pointer none,.bool true])∧Below w.heap.size w w':=by
 have HN:Hid (∀ w,Calls Try.prog 41 #[.agg #[.int .i64 k,.int .i64 v,.int .i64 c]] w fun e w'=>e=.returned (.tuple #[.pointer none,.int .i64 1])∧Below w.heap.size w w'):=fun w=>P.newNo k v c w h
 go_enter Try.func17,Try.ntmps17
 go_wp2_with fail
 refine (HN.out _).mono ?_
 rintro e w1 ⟨rfl,hb1⟩
 have hB1:Below w.heap.size w w1:=((Below.refl _ _).alloc (Nat.le_refl _) _).trans (hb1.mono (by simp))
 obtain ⟨hc,_⟩:=bcell hb1
 have z1:w.heap.size < w1.heap.size:=by have:=hb1.size; simp at this; omega
 go_wp2_with fail
 refine (may_any k v c _).mono ?_
 rintro e w2 ⟨rfl,hb2⟩
 rw [h]
 have hB2:Below w.heap.size w w2:=hB1.trans (hb2.mono (by omega))
 clear hc hb2 hb1
 go_wp2_with fail
 refine (num_any 1 _).mono ?_
 rintro e w5 ⟨rfl,rfl⟩
 go_wp2
 go_ret2
 exact ⟨rfl,hB2⟩
structure Ent where
 look:Bool
 step:Stp
def entC (o:Ent):List Value:=.bool o.look :: stepC o.step
def entA (o:Ent):Array Value:=(entC o).toArray
theorem len_entC (o:Ent):(entC o).length=10:=by simp [entC,stepC]
def isScript (w:World) (v:Value) (l:List Ent):Prop :=
 ∃ ao cap,v=.slice ao l.length cap∧l.length≤maxLen∧∀ i o,l[i]?=some o→∃ b off,ao=some ⟨b,off,none⟩∧b < w.heap.size∧w.rangeAt b (off+i*10) (entC o)
theorem size32:(Try.prog.info? 32).map (·.size)=some 10:=by kernel_rfl
theorem entry_look (bb:Nat) (s:Stp) (R:Value→World→Prop) (w:World)
  (h:Calls Try.prog 47 #[.pointer (some ⟨bb,0,none⟩),.agg #[.int .i64 s.at_.1,.int .i64 s.at_.2]] (w.alloc (.cells (entA ⟨true,s⟩) 32)) fun e w'=>∃ v,e=.returned (.tuple #[v,.bool true])∧R v w') :
  Calls Try.prog 19 #[.pointer (some ⟨bb,0,none⟩),.agg (entA ⟨true,s⟩)] w fun e w'=>∃ v,e=.returned (.tuple #[v,.bool true])∧R v w':=by
 simp only [entA,entC,stepC] at *
 go_enter Try.func19,Try.ntmps19
 go_wp2_with fail
 refine h.mono ?_
 rintro e w1 ⟨v,rfl,hv⟩
 go_wp2
 go_ret2
 exact ⟨v,rfl,hv⟩
theorem entry_step (bb:Nat) (s:Stp) (R:Value→World→Prop) (w:World)
  (h:Calls Try.prog 48 #[.pointer (some ⟨bb,0,none⟩),.agg (stepC s).toArray] (w.alloc (.cells (entA ⟨false,s⟩) 32)) fun e w'=>∃ v,e=.returned (.tuple #[v,.bool true])∧R v w') :
  Calls Try.prog 19 #[.pointer (some ⟨bb,0,none⟩),.agg (entA ⟨false,s⟩)] w fun e w'=>∃ v,e=.returned (.tuple #[v,.bool true])∧R v w':=by
 simp only [entA,entC,stepC] at *
 go_enter Try.func19,Try.ntmps19
 go_wp2_with fail
 refine h.mono ?_
 rintro e w1 ⟨v,rfl,hv⟩
 go_wp2
 go_ret2
 exact ⟨v,rfl,hv⟩
structure Going (P:Pgm) (D:P.Doc) (N:Nat) (w:World) (bb p r:Nat) (ownP ownR:Own) (s:P.S) (st:RS):Prop where
 both:BothAt P w bb p r s st ownP ownR
 ok:P.Ok N s
 sim:D.Sim N s st
 fit:st.Fit N
 locks:st.c≤32
def Went (P:Pgm) (D:P.Doc) (N:Nat) (own:Own) (w:World) (bb p r:Nat) (v:Value) (w':World):Prop :=
 ∃ s st l ownP ownR,Going P D N w' bb p r ownP ownR s st∧w'.ownsRow 0 94 2 v l.length (itemsV l)∧ChgD own w w' (ownP.or ownR)∧∀ b,v.ownBlock=some b→ownP.or ownR b=none∧(own b≠none∨w.heap.size≤b)
theorem entry_any (P:Pgm) (D:P.Doc) {N:Nat} {bb p r:Nat} {ownP ownR:Own} {s:P.S} {st:RS} {w:World} (G:Going P D N w bb p r ownP ownR s st) (hN:N+1 < 4398046511104) (o:Ent) :
  Calls Try.prog 19 #[.pointer (some ⟨bb,0,none⟩),.agg (entA o)] w fun e w'=>∃ v,e=.returned (.tuple #[v,.bool true])∧Went P D (N+1) (ownP.or ownR) w bb p r v w':=by
 obtain ⟨lk,x⟩:=o
 have hA:Below w.heap.size w (w.alloc (.cells (entA ⟨lk,x⟩) 32)):=(Below.refl _ _).alloc (Nat.le_refl _) _
 have lift:∀ {s' st' l v w'},EntRes P (ownP.or ownR) (w.alloc (.cells (entA ⟨lk,x⟩) 32)) bb p r s' st' l v w'→P.Ok (N+1) s'→D.Sim (N+1) s' st'→st'.Fit (N+1)→st'.c≤32→Went P D (N+1) (ownP.or ownR) w bb p r v w':=by
  rintro s' st' l v w' ⟨oP,oR,h1,h2,h3,h4⟩ a b c d
  refine ⟨s',st',l,oP,oR,⟨h2,a,b,c,d⟩,h1,(ChgD.of_below hA).trans h3,fun q hq=>⟨(h4 q hq).1,?_⟩⟩
  rcases (h4 q hq).2 with h | h
  ·exact .inl h
  ·exact .inr (Nat.le_trans hA.size h)
 cases lk with
 | true =>
  refine entry_look bb x _ w ?_
  cases hl:labB x.at_.1 x.at_.2 with
  | true =>
   refine (bothLooked_yes P bb p r s st ownP ownR x.at_.1 x.at_.2 _ hl (G.both.below hA) G.ok (D.look G.sim G.ok hl)).mono ?_
   rintro e w' ⟨v,rfl,h⟩
   exact ⟨v,rfl,lift h (P.okMono G.ok) (D.mono G.sim) (G.fit.mono (Nat.le_succ N)) G.locks⟩
  | false =>
   refine (bothLooked_no P bb p r s st ownP ownR x.at_.1 x.at_.2 _ hl (G.both.below hA) G.ok).mono ?_
   rintro e w' ⟨v,rfl,h⟩
   exact ⟨v,rfl,lift h (P.okMono G.ok) (D.mono G.sim) (G.fit.mono (Nat.le_succ N)) G.locks⟩
 | false =>
  refine entry_step bb x _ w ?_
  refine (done_any P bb p r s st ownP ownR x _ (G.both.below hA) G.ok G.fit G.locks hN (D.ans x G.sim G.ok)).mono ?_
  rintro e w' ⟨v,rfl,h⟩
  exact ⟨v,rfl,lift h (P.okAct x G.ok) (D.step x G.sim G.ok) (G.fit.doT x G.locks) (by rw [(doT_cfg st x).2.2]; exact G.locks)⟩
theorem chgD_below {own own':Own} {w w':World} {B:Nat} (h:ChgD own w w' own') (hB:∀ k,own k≠none→B≤k) (hs:B≤w.heap.size):Below B w w' :=
 ⟨h.os,h.tape,h.output,h.size,fun k hk=>h.block k (by omega) (by
  cases hq:own k with
  | none=>rfl
  | some t=>have:=hB k (by rw [hq]; simp); omega)⟩
def PlayInv (P:Pgm) (D:P.Doc) (B bb p r n:Nat) (w:World):Prop:=∃ s st ownP ownR,Going P D n w bb p r ownP ownR s st∧∀ k,ownP.or ownR k≠none→B≤k
theorem PlayInv.step {P:Pgm} {D:P.Doc} {B bb p r n:Nat} {w:World} (h:PlayInv P D B bb p r n w) (hs:B≤w.heap.size) (hn:n+1 < 4398046511104) (o:Ent) :
  Calls Try.prog 19 #[.pointer (some ⟨bb,0,none⟩),.agg (entA o)] w fun e w'=>∃ x,e=.returned (.tuple #[x,.bool true])∧PlayInv P D B bb p r (n+1) w'∧Below B w w':=by
 obtain ⟨s,st,ownP,ownR,G,ho⟩:=h
 refine (entry_any P D G hn o).mono ?_
 rintro e w' ⟨v,rfl,s',st',l,oP,oR,G',_,hc,_⟩
 refine ⟨v,rfl,⟨s',st',oP,oR,G',fun k hk=>?_⟩,chgD_below hc ho hs⟩
 rcases hc.fresh k hk with h | h
 ·exact ho k h
 ·omega
theorem bothPlay_no (P:Pgm) (k v c:Int) (sv:Value) (w:World) (h:mayB k v c=false) :
  Calls Try.prog 15 #[.agg #[.int .i64 k,.int .i64 v,.int .i64 c],sv] w fun e w'=>e=.returned (.bool true)∧Below w.heap.size w w':=by
 go_enter Try.func15,Try.ntmps15
 go_wp2_with fail
 refine (bothBegun_no P k v c _ h).mono ?_
 rintro e w1 ⟨rfl,hb1⟩
 have hB1:Below w.heap.size w w1:=((Below.refl _ _).alloc (Nat.le_refl _) _).trans (hb1.mono (by simp))
 go_wp2
 go_ret
 exact ⟨rfl,hB1⟩
theorem bothPlay_yes (P:Pgm) (D:P.Doc) (k v c:Int) (sv:Value) (script:List Ent) (w:World) (h:mayB k v c=true) (hsc:isScript w sv script) (hlen:script.length < 4398046511104) :
  Calls Try.prog 15 #[.agg #[.int .i64 k,.int .i64 v,.int .i64 c],sv] w fun e w'=>e=.returned (.bool true)∧Below w.heap.size w w':=by
 obtain ⟨ao,cap,rfl,hmax,hel⟩:=hsc
 unfold maxLen at hmax
 go_enter Try.func15,Try.ntmps15
 go_wp2_with fail
 refine (bothBegun_yes P k v c _ h).mono ?_
 rintro e w1 ⟨bb,p,r,ownP,ownR,rfl,hb1,f1,f2,f3⟩
 have hB1:Below w.heap.size w w1:=((Below.refl _ _).alloc (Nat.le_refl _) _).trans (hb1.mono (by simp))
 have II:Hid (PlayInv P D w.heap.size bb p r 0 w1):=⟨_,_,ownP,ownR,⟨f2,P.okStart h,D.start h,Fit0 k v c,(mayB_t h).2.2.2.2.2⟩,fun q hq=>by have:=f3 q hq; simp at this; omega⟩
 have HE:Hid (∀ i o,script[i]?=some o→∃ b off,ao=some ⟨b,off,none⟩∧b < w.heap.size∧w.rangeAt b (off+i*10) (entC o)):=hel
 clear hb1 f1 f2 f3 hel
 go_wp2_with fail
 go_loopw [6,7] (fun ok i wr=>∃ n:Nat,n≤script.length∧i=.int .i64 n∧ok=.bool true∧Hid (PlayInv P D w.heap.size bb p r n wr)∧Below w.heap.size w wr) (fun _ i _=>script.length - (intOf i).toNat)
 case atStart=>exact ⟨0,Nat.zero_le _,rfl,rfl,II,hB1⟩
 case round =>
  obtain ⟨n,hn,rfl,rfl,In,hB⟩:=hrel
  have hz:=hB.size
  by_cases hlt:n < script.length
  ·have hg:=List.getElem?_eq_getElem hlt
   generalize script[n]=o at hg
   obtain ⟨b,off,rfl,hbl,hrg⟩:=HE.out n o hg
   have hrg':wr.rangeAt b (off+n*10) (entC o):=rangeAt_below hrg hB hbl
   have zn:(n:Int) < (script.length:Int):=by omega
   clear hrg hg
   go_wp2_with (first | (refine wpList_load_mid rfl 32 _ rfl b (off+n*10) rfl (entC o) _ hrg' Try.underlying32 rfl ?hsz ?_))
   case hsz=>rw [len_entC]; exact size32
   refine (In.out.step hz (by omega) o).mono ?_
   rintro e w2 ⟨x,rfl,i1,hb2⟩
   have I1:Hid (PlayInv P D w.heap.size bb p r (n+1) w2):=i1
   clear i1
   go_wp2
   go_roundw
   case rel=>exact ⟨n+1,by omega,by go_num,rfl,I1,hB.trans hb2⟩
   case measure=>simp [intOf]; omega
  ·go_wp2
   go_ret
   exact ⟨rfl,hB⟩
theorem bothPlay (P:Pgm) (D:P.Doc) (k v c:Int) (sv:Value) (script:List Ent) (w:World) (hsc:isScript w sv script) (hlen:script.length < 4398046511104) :
  Calls Try.prog 15 #[.agg #[.int .i64 k,.int .i64 v,.int .i64 c],sv] w fun e w'=>e=.returned (.bool true)∧Below w.heap.size w w':=by
 cases h:mayB k v c with
 | true=>exact bothPlay_yes P D k v c sv script w h hsc hlen
 | false=>exact bothPlay_no P k v c sv w h
end Go.Proofs.Ytpbcplfpjcacfaa
namespace Go.Proofs.Ytpbcplfpjcacfaa
open Go.ChangeShapes Go.WideShapes Go.ChangeAt Go.RowKit Go.Joins Go.Deep
set_option maxRecDepth 100000
set_option maxHeartbeats 8000000
theorem cellsBool:Try.prog.cellsOf 4=1:=by kernel_rfl
theorem cellsOp:Try.prog.cellsOf 32=10:=by kernel_rfl
section
variable {H:Type} {enc:TypeId × Value→H} {W:World} {base:Nat} {sp:Nat→Bool} {hd:Bool}
theorem trod_op {fuel:Nat} {cs:List Value} {x:DataW H × List MemPlace} (h:DataW.trod enc Try.prog W base sp hd fuel 32 cs=some x):∃ o:Ent,cs=entC o:=by
 obtain ⟨xs,n,_,_,hl,hxl,hf⟩:=DataW.trod_struct Try.underlying32 h
 rw [cellsOp] at hl
 match xs,hxl,cs,hl with
 | [y0,y1],_,c0 :: cs,hl =>
  have hl':cs.length=9:=by simpa using hl
  have g0:=hf 0 _ rfl
  have g1:=hf 1 _ rfl
  simp [cellsBool,cellsStep] at g0 g1
  rw [List.take_of_length_le (by omega)] at g1
  obtain ⟨b,hb,_⟩:=DataW.trod_bool Try.underlying4 g0
  obtain ⟨s,hs⟩:=trod_step g1
  simp at hb
  exact ⟨⟨b,s⟩,by rw [hb,hs]; rfl⟩
end
theorem bytesOp:Try.prog.bytesOf 32=80:=by kernel_rfl
section
variable {H:Type} {enc:TypeId × Value→H} {w:World} {base b0:Nat} {spare:Nat→Bool} {held:Bool} {r:Reach} {v:Value} {d:DataW H} {p:List MemPlace}
theorem open_config (hv:Value.okWide Try.prog w r b0 23 v) (h:DataW.Trod enc Try.prog w base spare held 23 v d p) :
  ∃ a b c:Int,v=.agg #[.int .i64 a,.int .i64 b,.int .i64 c]:=by
 obtain ⟨c0,c1,c2,y0,y1,y2,m,rfl,rfl,rfl,hy0,hy1,hy2⟩:=open_agg3 Try.underlying23 (by kernel_rfl) cellsConfig hv h
 obtain ⟨a,e0,rfl,wa⟩:=DataW.trod_int Try.underlying3 hy0
 obtain ⟨b,e1,rfl,wb⟩:=DataW.trod_int Try.underlying3 hy1
 obtain ⟨c,e2,rfl,wc⟩:=DataW.trod_int Try.underlying3 hy2
 simp at e0 e1 e2
 exact ⟨a,b,c,by rw [e0,e1,e2]⟩
end
section
variable {H:Type} {enc:TypeId × Value→H} {w:World} {base b0:Nat} {spare:Nat→Bool} {held:Bool} {r:Reach} {v:Value} {d:DataW H} {p:List MemPlace}
theorem open_ops (hv:Value.okWide Try.prog w r b0 33 v) (h:DataW.Trod enc Try.prog w base spare held 33 v d p) :
  ∃ l:List Ent,isScript w v l∧(d=.nil∧l=[]∨∃ es s,d=.slice es s∧es.length=l.length):=by
 obtain ⟨a0,len,cap,rfl⟩:=okWide_slice Try.underlying33 hv
 obtain ⟨fuel,hf⟩:=h
 have:Inhabited Ent:=⟨⟨false,zeroStp⟩⟩
 obtain ⟨ao,cp,l,h1,h2,h3,h4⟩:=open_rows entC Try.underlying33 cellsOp (by decide) (fun _ _ _ h=>trod_op h) hf
 exact ⟨l,⟨ao,cp,h1,h2,h3⟩,h4⟩
end
end Go.Proofs.Ytpbcplfpjcacfaa
