import Derived.Test.YtpbcplfpjcacfaaF05
import Derived.Test.YtpbcplfpjcacfaaF08
namespace Go.Proofs.Ytpbcplfpjcacfaa
open Go.RowKit
set_option maxRecDepth 100000
set_option maxHeartbeats 8000000
theorem stp_cells {w:World} {p o:Nat} {x:Stp} (h:w.rangeAt p o (stepC x)) :
  w.cell? ⟨p,o,none⟩=some (.int .i64 x.who.1)∧w.cell? ⟨p,o+1,none⟩=some (.int .i64 x.who.2.1)∧w.cell? ⟨p,o+2,none⟩=some (.int .i64 x.who.2.2)∧w.cell? ⟨p,o+3,none⟩=some (.int .i64 x.op)∧w.cell? ⟨p,o+4,none⟩=some (.int .i64 x.at_.1)∧w.cell? ⟨p,o+5,none⟩=some (.int .i64 x.at_.2)∧w.cell? ⟨p,o+6,none⟩=some (.int .i64 x.key)∧w.cell? ⟨p,o+7,none⟩=some (.int .i64 x.to_)∧w.cell? ⟨p,o+8,none⟩=some (.int .i64 x.value) :=
 ⟨h 0 _ rfl,h 1 _ rfl,h 2 _ rfl,h 3 _ rfl,h 4 _ rfl,h 5 _ rfl,h 6 _ rfl,h 7 _ rfl,h 8 _ rfl⟩
abbrev stpObj (x:Stp):Obj:=.cells #[.int .i64 x.who.1,.int .i64 x.who.2.1,.int .i64 x.who.2.2,.int .i64 x.op,.int .i64 x.at_.1,.int .i64 x.at_.2,.int .i64 x.key,.int .i64 x.to_,.int .i64 x.value] 30
abbrev whoObj (x:Wh):Obj:=.cells #[.int .i64 x.1,.int .i64 x.2.1,.int .i64 x.2.2] 28
theorem isHind_is {w:World} {p q n:Nat} {s:PS} {own:Own} {G:PG} (m:PMem w p s own G) (hq:q < 32) (hn:n < 4) {a:Wh} (hw:a=whoOf q n) (hx:labB ((s.t q).ses n).req.at_.1 ((s.t q).ses n).req.at_.2=true) {b:Bool} (hb:s.hindB q n=b) :
  Calls Try.prog 80 #[.pointer (some ⟨p,0,none⟩),.agg #[.int .i64 a.1,.int .i64 a.2.1,.int .i64 a.2.2]] w fun e w'=>e=.returned (.bool b)∧Below w.heap.size w w':=by
 have M:Hid (PMem w p s own G):=m
 have hp:=m.lt
 have zn:(n:Int) < 4:=by omega
 clear m
 have Hl:Hid (labB (labOf q).1 (labOf q).2=true):=labOf_ok hq
 obtain ⟨a0,a1,a2⟩:=a
 obtain ⟨h0,h1,h2⟩:a0=(labOf q).1∧a1=(labOf q).2∧a2=(n:Int):=by simpa [whoOf] using hw
 subst h2
 have Ha:Hid ((a0,a1)=labOf q):=by show _=_; rw [h0,h1]
 have hlab:labB a0 a1=true:=by rw [h0,h1]; exact Hl.out
 have hpl:plOf (a0,a1)=q:=by rw [Ha.out]; exact plOf_labOf hq
 clear h0 h1 hw Hl
 unfold PS.hindB at hb
 rw [← Ha.out] at hb
 go_enter Try.func80,Try.ntmps80
 go_wp2_with fail
 refine (tier_is (a:=(a0,a1)) hlab hpl).mono ?_
 rintro e w1 ⟨rfl,hb1⟩
 have hB1:Below w.heap.size w w1:=((Below.refl _ _).alloc (Nat.le_refl _) _).trans (hb1.mono (by simp))
 have M1:Hid (PMem w1 p s own G):=M.out.below hB1
 have hz1:w.heap.size < w1.heap.size:=by have:=hb1.size; simp at this; omega
 obtain ⟨cc,cf⟩:=bcell hb1
 have d0:w1.cell? ⟨w.heap.size,0,none⟩=some (.int .i64 a0):=by rw [cc _ _ (by simp)]; simp
 have d1:w1.cell? ⟨w.heap.size,1,none⟩=some (.int .i64 a1):=by rw [cc _ _ (by simp)]; simp
 have d2:w1.cell? ⟨w.heap.size,2,none⟩=some (.int .i64 (n:Int)):=by rw [cc _ _ (by simp)]; simp
 clear cc cf hb1
 generalize hxx:((s.t q).ses n).req=x at *
 have hreq:=ses_req (M1.out.sesAt hq hn)
 rw [hxx] at hreq
 obtain ⟨r0,r1,r2,r3,r4,r5,r6,r7,r8⟩:=stp_cells hreq
 clear hreq
 go_wp2_with fail
 have HS2:Hid (∀ W,Below w1.heap.size w1 W→W.cell? ⟨w.heap.size,2,none⟩=some (.int .i64 (n:Int))∧W.cell? ⟨p,tO q+32+n*79+65,none⟩=some (.int .i64 x.who.1)∧W.cell? ⟨p,tO q+32+n*79+66,none⟩=some (.int .i64 x.who.2.1)∧W.cell? ⟨p,tO q+32+n*79+67,none⟩=some (.int .i64 x.who.2.2)∧W.cell? ⟨p,tO q+32+n*79+68,none⟩=some (.int .i64 x.op)∧W.cell? ⟨p,tO q+32+n*79+69,none⟩=some (.int .i64 x.at_.1)∧W.cell? ⟨p,tO q+32+n*79+70,none⟩=some (.int .i64 x.at_.2)∧W.cell? ⟨p,tO q+32+n*79+71,none⟩=some (.int .i64 x.key)∧W.cell? ⟨p,tO q+32+n*79+72,none⟩=some (.int .i64 x.to_)∧W.cell? ⟨p,tO q+32+n*79+73,none⟩=some (.int .i64 x.value)):=fun W hB=>⟨cell_later hB d2,cell_later hB r0,cell_later hB r1,cell_later hB r2,cell_later hB r3,cell_later hB r4,cell_later hB r5,cell_later hB r6,cell_later hB r7,cell_later hB r8⟩
 have hS:=HS2.out w1.drew (Below.refl _ _).drew
 refine wp_region_Z (z:=9) (S:=fun W=>W.cell? ⟨w.heap.size,2,none⟩=some (.int .i64 (n:Int))∧W.cell? ⟨p,tO q+32+n*79+65,none⟩=some (.int .i64 x.who.1)∧W.cell? ⟨p,tO q+32+n*79+66,none⟩=some (.int .i64 x.who.2.1)∧W.cell? ⟨p,tO q+32+n*79+67,none⟩=some (.int .i64 x.who.2.2)∧W.cell? ⟨p,tO q+32+n*79+68,none⟩=some (.int .i64 x.op)∧W.cell? ⟨p,tO q+32+n*79+69,none⟩=some (.int .i64 x.at_.1)∧W.cell? ⟨p,tO q+32+n*79+70,none⟩=some (.int .i64 x.at_.2)∧W.cell? ⟨p,tO q+32+n*79+71,none⟩=some (.int .i64 x.key)∧W.cell? ⟨p,tO q+32+n*79+72,none⟩=some (.int .i64 x.to_)∧W.cell? ⟨p,tO q+32+n*79+73,none⟩=some (.int .i64 x.value)) (by kernel_rfl) ?_
 refine zT (i:=0) (v:=?v1) (by decide +kernel) rfl (fun _ _ _ h=>h) hS (.inl ⟨by rfl,?y1⟩) ?_
 case y1=>(rintro wz ⟨zs0,zs1,zs2,zs3,zs4,zs5,zs6,zs7,zs8,zs9⟩; go_simp<;>with_reducible rfl)
 simp only [Act.put,z1,z2,z4,z5,z6]
 refine zT (i:=1) (v:=?v2) (by decide +kernel) rfl (fun _ _ _ h=>h) hS (.inl ⟨by rfl,?y2⟩) ?_
 case y2=>(rintro wz ⟨zs0,zs1,zs2,zs3,zs4,zs5,zs6,zs7,zs8,zs9⟩; go_simp<;>with_reducible rfl)
 simp only [Act.put,z1,z2,z3,z4,z5,z6]
 refine zT (i:=2) (v:=?v3) (by decide +kernel) rfl (fun _ _ _ h=>h) hS (.inl ⟨by rfl,?y3⟩) ?_
 case y3=>(rintro wz ⟨zs0,zs1,zs2,zs3,zs4,zs5,zs6,zs7,zs8,zs9⟩; go_simp<;>with_reducible rfl)
 simp only [Act.put,z1,z2,z3,z4,z5,z6]
 refine zT (i:=3) (v:=?v4) (by decide +kernel) rfl (fun _ _ _ h=>h) hS (.inl ⟨by rfl,?y4⟩) ?_
 case y4=>(rintro wz ⟨zs0,zs1,zs2,zs3,zs4,zs5,zs6,zs7,zs8,zs9⟩; go_simp<;>with_reducible rfl)
 simp only [Act.put,z1,z2,z3,z4,z5,z6]
 refine zT (i:=4) (v:=?v5) (by decide +kernel) rfl (fun _ _ _ h=>h) hS (.inl ⟨by rfl,?y5⟩) ?_
 case y5=>(rintro wz ⟨zs0,zs1,zs2,zs3,zs4,zs5,zs6,zs7,zs8,zs9⟩; go_simp<;>with_reducible rfl)
 simp only [Act.put,z1,z2,z3,z4,z5,z6]
 refine zT (i:=5) (v:=?v6) (by decide +kernel) rfl (fun _ _ _ h=>h) hS (.inl ⟨by rfl,?y6⟩) ?_
 case y6=>(rintro wz ⟨zs0,zs1,zs2,zs3,zs4,zs5,zs6,zs7,zs8,zs9⟩; go_simp<;>with_reducible rfl)
 simp only [Act.put,z1,z2,z3,z4,z5,z6]
 refine zT (i:=6) (v:=?v7) (by decide +kernel) rfl (fun _ _ _ h=>h) hS (.inl ⟨by rfl,?y7⟩) ?_
 case y7=>(rintro wz ⟨zs0,zs1,zs2,zs3,zs4,zs5,zs6,zs7,zs8,zs9⟩; go_simp<;>with_reducible rfl)
 simp only [Act.put,z1,z2,z3,z4,z5,z6]
 refine zT (i:=7) (v:=?v8) (by decide +kernel) rfl (fun _ _ _ h=>h) hS (.inl ⟨by rfl,?y8⟩) ?_
 case y8=>(rintro wz ⟨zs0,zs1,zs2,zs3,zs4,zs5,zs6,zs7,zs8,zs9⟩; go_simp<;>with_reducible rfl)
 simp only [Act.put,z1,z2,z3,z4,z5,z6]
 refine wpAnyZ_one (i:=8) (by decide +kernel) rfl (fun K hK=>?_)
 go_simp
 refine hK _ _ (fun _=>HS2.out _ (((Below.refl _ _).alloc (Nat.le_refl _) _).drew)) ?_
 clear hK
 refine wpAnyZ_one (i:=9) (by decide +kernel) rfl (fun K hK=>?_)
 go_simp
 refine hK _ _ (fun h=>absurd rfl h) ?_
 clear hK
 refine wpAnyZ_done (by decide +kernel) ?_ _
 clear r0 r1 r2 r3 r4 r5 r6 r7 r8 hS HS2
 obtain ⟨⟨y0,y1,y2⟩,op,⟨t0,t1⟩,k,t,v⟩:=x
 simp only at *
 have hB3:Below w.heap.size w (w1.alloc (stpObj ⟨(y0,y1,y2),op,(t0,t1),k,t,v⟩)).drew:=(hB1.alloc hB1.size _).drew
 have hz3:w1.heap.size < (w1.alloc (stpObj ⟨(y0,y1,y2),op,(t0,t1),k,t,v⟩)).drew.heap.size:=by simp
 have e0:(w1.alloc (stpObj ⟨(y0,y1,y2),op,(t0,t1),k,t,v⟩)).drew.cell? ⟨w.heap.size,0,none⟩=some (.int .i64 a0):=cell_later ((Below.refl _ _).alloc (Nat.le_refl _) _).drew d0
 have e1:(w1.alloc (stpObj ⟨(y0,y1,y2),op,(t0,t1),k,t,v⟩)).drew.cell? ⟨w.heap.size,1,none⟩=some (.int .i64 a1):=cell_later ((Below.refl _ _).alloc (Nat.le_refl _) _).drew d1
 have e2:(w1.alloc (stpObj ⟨(y0,y1,y2),op,(t0,t1),k,t,v⟩)).drew.cell? ⟨w.heap.size,2,none⟩=some (.int .i64 (n:Int)):=cell_later ((Below.refl _ _).alloc (Nat.le_refl _) _).drew d2
 have g0:(w1.alloc (stpObj ⟨(y0,y1,y2),op,(t0,t1),k,t,v⟩)).drew.cell? ⟨w1.heap.size,0,none⟩=some (.int .i64 y0):=by simp
 have g1:(w1.alloc (stpObj ⟨(y0,y1,y2),op,(t0,t1),k,t,v⟩)).drew.cell? ⟨w1.heap.size,1,none⟩=some (.int .i64 y1):=by simp
 have g2:(w1.alloc (stpObj ⟨(y0,y1,y2),op,(t0,t1),k,t,v⟩)).drew.cell? ⟨w1.heap.size,2,none⟩=some (.int .i64 y2):=by simp
 have g3:(w1.alloc (stpObj ⟨(y0,y1,y2),op,(t0,t1),k,t,v⟩)).drew.cell? ⟨w1.heap.size,3,none⟩=some (.int .i64 op):=by simp
 have g4:(w1.alloc (stpObj ⟨(y0,y1,y2),op,(t0,t1),k,t,v⟩)).drew.cell? ⟨w1.heap.size,4,none⟩=some (.int .i64 t0):=by simp
 have g5:(w1.alloc (stpObj ⟨(y0,y1,y2),op,(t0,t1),k,t,v⟩)).drew.cell? ⟨w1.heap.size,5,none⟩=some (.int .i64 t1):=by simp
 have g6:(w1.alloc (stpObj ⟨(y0,y1,y2),op,(t0,t1),k,t,v⟩)).drew.cell? ⟨w1.heap.size,6,none⟩=some (.int .i64 k):=by simp
 have g7:(w1.alloc (stpObj ⟨(y0,y1,y2),op,(t0,t1),k,t,v⟩)).drew.cell? ⟨w1.heap.size,7,none⟩=some (.int .i64 t):=by simp
 have g8:(w1.alloc (stpObj ⟨(y0,y1,y2),op,(t0,t1),k,t,v⟩)).drew.cell? ⟨w1.heap.size,8,none⟩=some (.int .i64 v):=by simp
 have hzw:w.heap.size < (w1.alloc (stpObj ⟨(y0,y1,y2),op,(t0,t1),k,t,v⟩)).drew.heap.size:=by simp; omega
 clear hxx d0 d1 d2
 unfold stpObj at *
 simp only at *
 generalize (w1.alloc (.cells #[.int .i64 y0,.int .i64 y1,.int .i64 y2,.int .i64 op,.int .i64 t0,.int .i64 t1,.int .i64 k,.int .i64 t,.int .i64 v] 30)).drew=W at *
 have M3:Hid (PMem W p s own G):=M.out.below hB3
 by_cases h0:t0=a0
 ·subst h0
  by_cases h1:t1=a1
  ·subst h1
   rw [if_pos rfl] at hb
   have HB:Hid ((List.range 4).any (fun o=>(s.t q).hindB o n)=b):=hb
   clear hb g0 g1 g2 g3 g6 g7 g8
   go_wp2_with fail
   go_loopw [34] (fun i wr=>∃ k:Nat,k≤4∧i=.int .i64 k∧Hid (∀ i,i < k→(s.t q).hindB i n=false)∧Below W.heap.size W wr) (fun i _=>4 - (intOf i).toNat)
   case atStart=>exact ⟨0,Nat.zero_le _,rfl,fun i hi=>absurd hi (Nat.not_lt_zero i),Below.refl _ _⟩
   case round =>
    obtain ⟨c,hc,rfl,Hl,hnx⟩:=hrel
    have hBr:Below w.heap.size w wr:=hB3.trans (hnx.mono hB3.size)
    have q2:=cell_later hnx e2
    have Mr:Hid (PMem wr p s own G):=M.out.below hBr
    by_cases hlt:c < 4
    ·have zk:(c:Int) < 4:=by omega
     cases hs:(s.t q).hindB c n
     ·go_wp2_with fail
      refine (trHind_is Mr.out hq hlt hn hs).mono ?_
      rintro e w4 ⟨rfl,hb4⟩
      have hon:Below W.heap.size W w4:=hnx.trans (hb4.mono hnx.size)
      go_wp2
      go_roundw
      case rel =>
       refine ⟨c+1,by omega,by go_num,?_,hon⟩
       intro i hi
       by_cases he:i=c
       ·subst he; exact hs
       ·exact Hl.out i (by omega)
      case measure=>simp [intOf]; omega
     ·go_wp2_with fail
      refine (trHind_is Mr.out hq hlt hn hs).mono ?_
      rintro e w4 ⟨rfl,hb4⟩
      have hend:Below w.heap.size w w4:=hBr.trans (hb4.mono hBr.size)
      go_wp2
      go_ret
      exact ⟨ret_bool (any_to (f:=fun o=>(s.t q).hindB o n) HB.out hlt hs).symm,hend⟩
    ·have e:c=4:=by omega
     subst e
     go_wp2
     go_ret
     exact ⟨ret_bool (any_none HB.out Hl.out).symm,hBr⟩
  ·rw [if_neg (fun e=>h1 (Prod.mk.inj e).2)] at hb
   have g:(t1 == a1)=false:=by simpa using h1
   clear h1
   go_wp2_with fail
   refine (tier_is (a:=(t0,t1)) hx rfl).mono ?_
   rintro e w4 ⟨rfl,hb4⟩
   obtain ⟨c4,f4⟩:=bcell hb4
   have hB4:Below w.heap.size w w4:=hB3.trans (hb4.mono hB3.size)
   have M4:Hid (PMem w4 p s own G):=M.out.below hB4
   have hz4:w1.heap.size < w4.heap.size:=Nat.lt_of_lt_of_le hz3 hb4.size
   go_wp2_with fail
   refine (asked_any ⟨(y0,y1,y2),op,(t0,t1),k,t,v⟩ _).mono ?_
   rintro e w5 ⟨rfl,hb5⟩
   have hB5:Below w.heap.size w w5:=hB4.trans (hb5.mono hB4.size)
   go_wp2_with fail
   refine (trMet_is (M.out.below hB5) (plOf_lt hx) hb).mono ?_
   rintro e w6 ⟨rfl,hb6⟩
   have hB6:Below w.heap.size w w6:=hB5.trans (hb6.mono hB5.size)
   go_wp2
   go_ret
   exact ⟨rfl,hB6⟩
 ·rw [if_neg (fun e=>h0 (Prod.mk.inj e).1)] at hb
  have g:(t0 == a0)=false:=by simpa using h0
  clear h0
  go_wp2_with fail
  refine (tier_is (a:=(t0,t1)) hx rfl).mono ?_
  rintro e w4 ⟨rfl,hb4⟩
  obtain ⟨c4,f4⟩:=bcell hb4
  have hB4:Below w.heap.size w w4:=hB3.trans (hb4.mono hB3.size)
  have M4:Hid (PMem w4 p s own G):=M.out.below hB4
  have hz4:w1.heap.size < w4.heap.size:=Nat.lt_of_lt_of_le hz3 hb4.size
  go_wp2_with fail
  refine (asked_any ⟨(y0,y1,y2),op,(t0,t1),k,t,v⟩ _).mono ?_
  rintro e w5 ⟨rfl,hb5⟩
  have hB5:Below w.heap.size w w5:=hB4.trans (hb5.mono hB4.size)
  go_wp2_with fail
  refine (trMet_is (M.out.below hB5) (plOf_lt hx) hb).mono ?_
  rintro e w6 ⟨rfl,hb6⟩
  have hB6:Below w.heap.size w w6:=hB5.trans (hb6.mono hB5.size)
  go_wp2
  go_ret
  exact ⟨rfl,hB6⟩
def st0 (k v c:Int):RS:=⟨k,v,c,[],[],[],[],0,0⟩
def own0 (r:Nat):Own:=fun b=>if b=r then some (1,0,0,0) else none
theorem own0_at {r k:Nat} (h:own0 r k≠none):k=r:=by
 unfold own0 at h
 split at h
 ·assumption
 ·exact absurd rfl h
def APost (own:Own) (w:World) (R:World→Own→Prop) (a:Ans) (e:Ending) (w':World):Prop :=
 ∃ v own',e=.returned (ansV a.code a.why v)∧w'.ownsRow 0 94 2 v a.items.length (itemsV a.items)∧R w' own'∧ChgD own w w' own'∧∀ b,v.ownBlock=some b→own' b=none∧(own b≠none∨w.heap.size≤b)
structure Pgm where
 S:Type
 Rep:World→Nat→S→Own→Prop
 act:S→Stp→S × Ans
 look:S→Lab→List (Int × Int)
 start:Int→Int→Int→S
 Ok:Nat→S→Prop
 old:∀ {w p s own},Rep w p s own→∀ k,own k≠none→k < w.heap.size
 frame:∀ {w w' p s own},Rep w p s own→(∀ k,own k≠none→w'.heap[k]?=w.heap[k]?)→w.heap.size≤w'.heap.size→Rep w' p s own
 okStart:∀ {k v c},mayB k v c=true→Ok 0 (start k v c)
 okAct:∀ {N s} x,Ok N s→Ok (N+1) (act s x).1
 okMono:∀ {N s},Ok N s→Ok (N+1) s
 newYes:∀ k v c w,mayB k v c=true→Calls Try.prog 41 #[.agg #[.int .i64 k,.int .i64 v,.int .i64 c]] w fun e w' =>
  ∃ p own,e=.returned (.tuple #[.pointer (some ⟨p,0,none⟩),.int .i64 0])∧Below w.heap.size w w'∧(∀ k,own k≠none→w.heap.size≤k)∧Rep w' p (start k v c) own
 newNo:∀ k v c w,mayB k v c=false→Calls Try.prog 41 #[.agg #[.int .i64 k,.int .i64 v,.int .i64 c]] w fun e w' =>
  e=.returned (.tuple #[.pointer none,.int .i64 1])∧Below w.heap.size w w'
 lookYes:∀ {w p s own N} l c,Rep w p s own→Ok N s→labB l c=true→Calls Try.prog 31 #[.pointer (some ⟨p,0,none⟩),.agg #[.int .i64 l,.int .i64 c]] w fun e w' =>
  ∃ v,e=.returned (.tuple #[v,.int .i64 0])∧w'.ownsRow w.heap.size 94 2 v (look s (l,c)).length (itemsV (look s (l,c)))∧Below w.heap.size w w'
 lookNo:∀ {w p s own N} l c,Rep w p s own→Ok N s→labB l c=false→Calls Try.prog 31 #[.pointer (some ⟨p,0,none⟩),.agg #[.int .i64 l,.int .i64 c]] w fun e w' =>
  e=.returned (.tuple #[.slice none 0 0,.int .i64 2])∧Below w.heap.size w w'
 doAny:∀ {w p s own N} x,Rep w p s own→Ok N s→N+1 < 4398046511104→Calls Try.prog 28 #[.pointer (some ⟨p,0,none⟩),stepV x] w
  (APost own w (fun w' own'=>Rep w' p (act s x).1 own') (act s x).2)
structure Pgm.Doc (P:Pgm) where
 Sim:Nat→P.S→RS→Prop
 start:∀ {k v c},mayB k v c=true→Sim 0 (P.start k v c) (st0 k v c)
 ans:∀ {N s st} x,Sim N s st→P.Ok N s→(P.act s x).2=(st.doT x).2
 step:∀ {N s st} x,Sim N s st→P.Ok N s→Sim (N+1) (P.act s x).1 (st.doT x).1
 mono:∀ {N s st},Sim N s st→Sim (N+1) s st
 look:∀ {N s st l c},Sim N s st→P.Ok N s→labB l c=true→P.look s (l,c)=st.lookTo (l,c) 16
theorem Pgm.below (P:Pgm) {w w':World} {p:Nat} {s:P.S} {own:Own} (h:P.Rep w p s own) (hb:Below w.heap.size w w'):P.Rep w' p s own :=
 P.frame h (fun k hk=>hb.block k (P.old h k hk)) hb.size
structure Answered (own:Own) (w:World) (R:World→Own→Prop) (a:Ans) (b:Nat) (v:Value) (wc:World) (own':Own):Prop where
 blk:wc.heap[b]?=some (.cells #[.int .i64 a.code,.int .i64 a.why,v] 66 (0,0))
 new:w.heap.size≤b
 off:own' b=none
 row:wc.ownsRow 0 94 2 v a.items.length (itemsV a.items)
 rep:R wc own'
 chg:ChgD own w wc own'
 out:∀ k,v.ownBlock=some k→own' k=none∧(own k≠none∨w.heap.size≤k)∧k≠b
def Framed (R:World→Own→Prop):Prop:=∀ {w w' own},R w own→(∀ k,own k≠none→w'.heap[k]?=w.heap[k]?)→w.heap.size≤w'.heap.size→R w' own
def Olden (R:World→Own→Prop):Prop:=∀ {w own},R w own→∀ k,own k≠none→k < w.heap.size
theorem ownsRow_frame {w w':World} {B e size:Nat} {v:Value} {n:Nat} {xs:List Value} (h:w.ownsRow B e size v n xs) (hk:∀ k,v.ownBlock=some k→w'.heap[k]?=w.heap[k]?):w'.ownsRow B e size v n xs:=by
 obtain ⟨hl,ho⟩:=h
 refine ⟨hl,?_⟩
 rcases ho with h | ⟨b,c,d,e1,e2,e3,e4⟩
 ·exact .inl h
 ·refine .inr ⟨b,c,d,e1,e2,?_,e4⟩
  rw [hk b (by rw [e1]; rfl)]; exact e3
theorem ownsRow_lt {w:World} {B e size:Nat} {v:Value} {n:Nat} {xs:List Value} (h:w.ownsRow B e size v n xs):∀ k,v.ownBlock=some k→k < w.heap.size:=fun k hk=>(h.lt k hk).2
theorem ChgD.of_below {own:Own} {w w':World} (h:Below w.heap.size w w'):ChgD own w w' own:=(Chg.of_below h).toD
theorem Answered.late {own:Own} {w0 w w4:World} {R:World→Own→Prop} {a:Ans} (h0:Below w0.heap.size w0 w) (hF:Framed R) (hO:Olden R) {v:Value} {own':Own}
  (hrow:w4.ownsRow 0 94 2 v a.items.length (itemsV a.items)) (hR:R w4 own') (hC:ChgD own w w4 own') (hv:∀ b,v.ownBlock=some b→own' b=none∧(own b≠none∨w.heap.size≤b)) :
  Answered own w0 R a w4.heap.size v (w4.alloc (.cells #[.int .i64 a.code,.int .i64 a.why,v] 66)) own':=by
 have hlt:=ownsRow_lt hrow
 have hB:Below w4.heap.size w4 (w4.alloc (.cells #[.int .i64 a.code,.int .i64 a.why,v] 66)):=(Below.refl _ _).alloc (Nat.le_refl _) _
 have hC0:ChgD own w0 w4 own':=(ChgD.of_below h0).trans hC
 refine ⟨heap_alloc_new w4 _,hC0.size,?_,?_,?_,hC0.trans (ChgD.of_below hB),?_⟩
 ·cases hq:own' w4.heap.size with
  | none=>rfl
  | some t=>exact absurd (hO hR _ (by rw [hq]; simp)) (Nat.lt_irrefl _)
 ·exact ownsRow_frame hrow (fun k hk=>hB.block k (hlt k hk))
 ·exact hF hR (fun k hk=>hB.block k (hO hR k hk)) hB.size
 ·intro k hk
  obtain ⟨h1,h2⟩:=hv k hk
  have:=hlt k hk
  refine ⟨h1,?_,by omega⟩
  rcases h2 with h2 | h2
  ·exact .inl h2
  ·exact .inr (Nat.le_trans h0.size h2)
theorem set_split {l:List Value} {i:Nat} (v:Value) (h:i < l.length):∃ A Z u,l=A++([u]++Z)∧l.set i v=A++([v]++Z)∧A.length=i :=
 ⟨l.take i,l.drop (i+1),l[i],by rw [List.singleton_append,← drop_at (List.getElem?_eq_getElem h),List.take_append_drop],by rw [List.set_eq_take_append_cons_drop,if_pos h]; rfl,by rw [List.length_take]; omega⟩
section
variable {w:World} {p q n:Nat} {s:PS} {own:Own} {G:PG}
theorem PMem.put1 (m:PMem w p s own G) (hq:q < 32) (hn:n < 4) (x:Ses) {i:Nat} {v:Value} (hi:i < 79) (e':sesC x (G.s q n)=(sesC ((s.t q).ses n) (G.s q n)).set i v) (hl:x.locks=((s.t q).ses n).locks) (ho:x.out.items=((s.t q).ses n).out.items) :
  PMem (w.setCell ⟨p,tO q+32+n*79+i,none⟩ v) p (s.setS q n x) own (G.setS q n (G.s q n))∧ChgQ own w (w.setCell ⟨p,tO q+32+n*79+i,none⟩ v) own:=by
 obtain ⟨A,Z,u,e1,e2,e3⟩:=set_split v (l:=sesC ((s.t q).ses n) (G.s q n)) (i:=i) (by rw [len_sesC]; exact hi)
 exact m.putSes hq hn x (G.s q n) i [v] e1 (e'.trans e2) e3 rfl (fun _ _ h _ _=>h) (fun _ _ h=>h) (by rw [hl]; exact m.lockR q hq n hn) (by rw [ho]; exact m.outR q hq n hn)
theorem PMem.sesFits (m:PMem w p s own G) (hq:q < 32) (hn:n < 4) {i k:Nat} (h:i+k≤79):w.there p (tO q+32+n*79+i) k:=m.there (by unfold tO; omega)
end
theorem sesC_set (s:Ses) (g:SG) (j:Nat) (v:Value):(sesC s g).set (65+j) v=[g.1]++(wrC s.wr++((stepC s.req++([Value.bool s.came]++(outC s.out g.2++[Value.int .i64 s.ended]))).set j v)):=by
 unfold sesC
 rw [List.set_append_right _ _ (by simp; omega),List.set_append_right _ _ (by rw [len_wrC]; simp),len_wrC]
 congr 3
 simp
theorem sesC_ended (s:Ses) (g:SG) (e:Int):sesC { s with ended:=e } g=(sesC s g).set 78 (.int .i64 e):=by
 rw [show 78=65+13 from rfl,sesC_set]; rfl
theorem sesC_came (s:Ses) (g:SG) (b:Bool):sesC { s with came:=b } g=(sesC s g).set 74 (.bool b):=by
 rw [show 74=65+9 from rfl,sesC_set]; rfl
theorem sesC_locks (s:Ses) (g:SG) (v:Value) (l:List Lk):sesC { s with locks:=l } (v,g.2)=(sesC s g).set 0 v:=rfl
theorem sesC_wr (s:Ses) (g:SG) (x:Wrt) (j:Nat) (v:Value) (hj:j < 64) (h:wrC x=(wrC s.wr).set j v):sesC { s with wr:=x } g=(sesC s g).set (1+j) v:=by
 unfold sesC
 rw [List.set_append_right _ _ (by simp),List.set_append_left _ _ (by rw [len_wrC]; simp; exact hj)]
 simp only [h]
 congr 3
 simp
theorem flagC_set (f:Nat→Bool) {k:Nat} (b:Bool):flagC (upd f k b)=(flagC f).set k (.bool b):=by
 apply List.ext_getElem?
 intro i
 rw [List.getElem?_set]
 unfold flagC
 by_cases hi:i < 16
 ·by_cases e:k=i
  ·subst e; simp [hi,upd]
  ·have e':¬ i=k:=fun h=>e h.symm
   simp [hi,upd,e,e']
 ·have h16:((List.range 16).map (fun k=>Value.bool (f k)))[i]?=none:=by simp; omega
  have h17:((List.range 16).map (fun m=>Value.bool (upd f k b m)))[i]?=none:=by simp; omega
  rw [h16,h17]
  split
  ·rw [if_neg]; simp; omega
  ·rfl
theorem wrC_touched (x:Wrt) {k:Nat} (hk:k < 16) (b:Bool):wrC { x with touched:=upd x.touched k b }=(wrC x).set k (.bool b):=by
 unfold wrC
 rw [List.set_append_left _ _ (by rw [len_flagC]; exact hk)]
 simp only [flagC_set]
theorem wrC_put (x:Wrt) {k:Nat} (b:Bool):wrC { x with put:=upd x.put k b }=(wrC x).set (48+k) (.bool b):=by
 unfold wrC
 rw [List.set_append_right _ _ (by rw [len_flagC]; omega),List.set_append_right _ _ (by rw [len_flagC,len_tabV]; omega),len_flagC,len_tabV]
 simp only [flagC_set]
 congr 3
 omega
theorem range_split {k:Nat} (h:k < 16):∃ A Z,List.range 16=A++(k :: Z)∧A.length=k∧(∀ x∈A,x≠k)∧(∀ x∈Z,x≠k):=by
 refine ⟨(List.range 16).take k,(List.range 16).drop (k+1),?_,?_,?_,?_⟩
 ·rw [← drop_at (by simp [h]:(List.range 16)[k]?=some k),List.take_append_drop]
 ·simp; omega
 ·intro x hx
  rw [List.take_range] at hx
  have:=List.mem_range.1 hx
  omega
 ·intro x hx
  obtain ⟨i,hi⟩:=List.mem_iff_getElem?.1 hx
  rw [List.getElem?_drop] at hi
  obtain ⟨h1,h2⟩:=List.getElem?_eq_some_iff.1 hi
  simp at h2
  omega
theorem flatMap_cg {α β:Type} {f g:α→List β}:∀ {l:List α},(∀ x∈l,f x=g x)→l.flatMap f=l.flatMap g
 | [],_=>rfl
 | a :: l,h=>by rw [List.flatMap_cons,List.flatMap_cons,h a (List.mem_cons_self),flatMap_cg (fun x hx=>h x (List.mem_cons_of_mem _ hx))]
theorem flatMap_split {α β:Type} (f g:α→List β) {A Z:List α} {k:α} (h1:∀ x∈A,f x=g x) (h2:∀ x∈Z,f x=g x):(A++(k :: Z)).flatMap f=A.flatMap g++(f k++Z.flatMap g):=by
 rw [List.flatMap_append,List.flatMap_cons]
 congr 1
 ·exact flatMap_cg h1
 ·congr 1
  exact flatMap_cg h2
theorem tabV_split (T:Nat→Option Int) {k:Nat} (h:k < 16) (v:Option Int):∃ A Z,tabV T=A++(slotV T k++Z)∧tabV (upd T k v)=A++(slotV (upd T k v) k++Z)∧A.length=k*2:=by
 obtain ⟨A,Z,e,hl,h1,h2⟩:=range_split h
 refine ⟨A.flatMap (slotV T),Z.flatMap (slotV T),?_,?_,?_⟩
 ·unfold tabV; rw [e]; exact flatMap_split _ _ (fun _ _=>rfl) (fun _ _=>rfl)
 ·unfold tabV; rw [e]
  exact flatMap_split _ _ (fun x hx=>by unfold slotV; rw [upd_ne _ _ (h1 x hx)]) (fun x hx=>by unfold slotV; rw [upd_ne _ _ (h2 x hx)])
 ·rw [flatMap_len _ 2 _ (fun _=>rfl),hl]
def Moved (own:Own) (w:World) (p:Nat) (s:PS) (w':World):Prop:=∃ own' G',PMem w' p s own' G'∧ChgQ own w w' own'
theorem Moved.trans {own:Own} {w w1 w2:World} {p:Nat} {s:PS} {own1:Own} (h:ChgQ own w w1 own1) (k:Moved own1 w1 p s w2):Moved own w p s w2:=by
 obtain ⟨o2,G2,m2,c2⟩:=k
 exact ⟨o2,G2,m2,h.trans c2⟩
def AQ (own:Own) (w:World) (p:Nat) (s:PS) (a:Ans) (e:Ending) (w':World):Prop :=
 ∃ v own' G',e=.returned (ansV a.code a.why v)∧w'.ownsRow 0 94 2 v a.items.length (itemsV a.items)∧PMem w' p s own' G'∧ChgQ own w w' own'∧∀ b,v.ownBlock=some b→own' b=none∧((own b≠none∧∀ x,own b≠some (5,x))∨w.heap.size≤b)
theorem Moved.plain {own:Own} {w w1:World} {p:Nat} {s:PS} (h:Moved own w p s w1) (c y:Int):AQ own w p s ⟨c,y,[]⟩ (.returned (ansV c y (.slice none 0 0))) w1:=by
 obtain ⟨o,G,m,cc⟩:=h
 exact ⟨.slice none 0 0,o,G,rfl,World.ownsRow_nil _ _ _ _,m,cc,fun b hb=>by cases hb⟩
theorem Moved.below {own:Own} {w w1 w2:World} {p:Nat} {s:PS} (h:Moved own w p s w1) (hb:Below w1.heap.size w1 w2):Moved own w p s w2:=by
 obtain ⟨o,G,m,cc⟩:=h
 exact ⟨o,G,m.below hb,cc.trans (ChgQ.of_below hb)⟩
theorem Moved.alloc {own:Own} {w w1:World} {p:Nat} {s:PS} (h:Moved own w p s w1) (o:Obj):Moved own w p s (w1.alloc o):=h.below ((Below.refl _ _).alloc (Nat.le_refl _) _)
theorem PMem.went {own:Own} {w w1:World} {p:Nat} {s:PS} {G:PG} (m:PMem w p s own G) (hb:Below w.heap.size w w1):Moved own w p s w1:=⟨own,G,m.below hb,ChgQ.of_below hb⟩
theorem PMem.went' {own:Own} {w w1:World} {p:Nat} {s':PS} {G':PG} (h:PMem w1 p s' own G'∧ChgQ own w w1 own):Moved own w p s' w1:=⟨own,G',h.1,h.2⟩
theorem setT_setT (s:PS) (q:Nat) (x y:Tr):(s.setT q x).setT q y=s.setT q y:=by unfold PS.setT; simp only [upd_upd]
theorem setT_t (s:PS) (q:Nat) (x:Tr):(s.setT q x).t q=x:=upd_same _ _ _
theorem setT_id (s:PS) (q:Nat):s.setT q (s.t q)=s:=by unfold PS.setT; rw [upd_id]
theorem Tr.setS_setS (t:Tr) (n:Nat) (x y:Ses):(t.setS n x).setS n y=t.setS n y:=by unfold Tr.setS; simp only [upd_upd]
theorem Tr.setS_at (t:Tr) (n:Nat) (x:Ses):(t.setS n x).ses n=x:=upd_same _ _ _
theorem setS_setS (s:PS) (q n:Nat) (x y:Ses):(s.setS q n x).setS q n y=s.setS q n y:=by
 unfold PS.setS; rw [setT_t,setT_setT,Tr.setS_setS]
theorem setS_at (s:PS) (q n:Nat) (x:Ses):((s.setS q n x).t q).ses n=x:=by unfold PS.setS; rw [setT_t,Tr.setS_at]
theorem PG.setS_at (G:PG) (q n:Nat) (g:SG):(G.setS q n g).s q n=g:=by rw [PG.setS_s,if_pos rfl,if_pos rfl]
theorem PMem.free {w:World} {p b o:Nat} {s:PS} {own:Own} {G:PG} (m:PMem w p s own G) (h:own b=none) (cs:List Value):PMem (w.setCells b o cs) p s own G :=
 m.frame (fun k hk=>setCells_other _ _ _ _ (fun e=>hk (by rw [e]; exact h))) (by rw [setCells_size]; exact Nat.le_refl _)
theorem ChgQ.free {own own':Own} {w w1:World} {b o:Nat} (h:ChgQ own w w1 own') (hb:w.heap.size≤b) (cs:List Value):ChgQ own w (w1.setCells b o cs) own':=by
 have hkb:=World.keptBut_setCells b (may:=fun _=>True) cs o w1 (fun _ _=>trivial)
 have hs:∀ k,k < w.heap.size→(w1.setCells b o cs).heap[k]?=w1.heap[k]?:=fun k hk=>setCells_other _ _ _ _ (by omega)
 exact ⟨hkb.1.trans h.os,(setCells_tape _ _ _).trans h.tape,hkb.2.1.trans h.output,by rw [setCells_size]; exact h.size,fun k hk hn=>(hs k hk).trans (h.block k hk hn),h.fresh,fun k x hk hx=>⟨(hs k hk).trans (h.keep k x hk hx).1,(h.keep k x hk hx).2⟩⟩
theorem PMem.off {w:World} {p:Nat} {s:PS} {own:Own} {G:PG} (m:PMem w p s own G) {k:Nat} (h:w.heap.size≤k):own k=none:=by
 cases ho:own k with
 | none=>rfl
 | some t=>exact absurd (m.old k (by rw [ho]; simp)) (by omega)
end Go.Proofs.Ytpbcplfpjcacfaa
