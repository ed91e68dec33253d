import Derived.Test.YtpbcplfpjcacfaaF02
import Derived.Test.YtpbcplfpjcacfaaT01
namespace Go.Proofs.Ytpbcplfpjcacfaa
open Go.RowKit
set_option maxRecDepth 100000
set_option maxHeartbeats 8000000
def waitIx (x:Wh):List Rc→Nat→Int
 | [],_=>-1
 | t :: l,k=>if t.waits=true∧t.who=x then (k:Int) else waitIx x l (k+1)
def RS.waiting (st:RS) (x:Wh):Int:=waitIx x st.recs 0
theorem rec_cells {w:World} {b o:Nat} {t:Rc} (h:w.rangeAt b o (recC t)) :
  w.cell? ⟨b,o,none⟩=some (.int .i64 t.who.1)∧w.cell? ⟨b,o+1,none⟩=some (.int .i64 t.who.2.1)∧w.cell? ⟨b,o+2,none⟩=some (.int .i64 t.who.2.2)∧w.cell? ⟨b,o+3,none⟩=some (.int .i64 t.at_.1)∧w.cell? ⟨b,o+4,none⟩=some (.int .i64 t.at_.2) ∧
  w.cell? ⟨b,o+5,none⟩=some (.int .i64 t.lo)∧w.cell? ⟨b,o+6,none⟩=some (.int .i64 t.hi)∧w.cell? ⟨b,o+7,none⟩=some (.bool t.write)∧w.cell? ⟨b,o+8,none⟩=some (.bool t.waits)∧w.cell? ⟨b,o+9,none⟩=some (.int .i64 t.came) :=
 ⟨h 0 _ rfl,h 1 _ rfl,h 2 _ rfl,h 3 _ rfl,h 4 _ rfl,h 5 _ rfl,h 6 _ rfl,h 7 _ rfl,h 8 _ rfl,h 9 _ rfl⟩
theorem hinders_is {a b:Rc} {v:Bool} (h:hindB a b=v) (w:World):Calls Try.prog 126 #[recV a,recV b] w fun e w'=>e=.returned (.bool v)∧Below w.heap.size w w':=by
 subst h; exact hinders_any a b w
theorem waiting_any (r:Nat) (st:RS) (own:Own) (a b c:Int) (w:World) (hm:Rep w r st own) :
  Calls Try.prog 88 #[.pointer (some ⟨r,0,none⟩),.agg #[.int .i64 a,.int .i64 b,.int .i64 c]] w fun e w'=>e=.returned (.int .i64 (st.waiting (a,b,c)))∧Below w.heap.size w w':=by
 obtain ⟨g,vp,vt,vr,ve,m⟩:=hm
 obtain ⟨ao,cap,rfl,hmax,hel⟩:=m.recs.form len_recC
 have hrlt:=m.old r (by rw [m.rootTag]; simp)
 have hr4:w.cell? ⟨r,5,none⟩=some (.slice ao st.recs.length cap):=by rw [root_cell m.root]; rfl
 unfold maxLen at hmax
 clear m
 go_enter Try.func88,Try.ntmps88
 go_wp2_with fail
 go_loopw [5] (fun i wr=>∃ k:Nat,k≤st.recs.length∧i=.int .i64 k∧Hid (waitIx (a,b,c) (st.recs.drop k) k=st.waiting (a,b,c))∧Below (w.heap.size+1) (w.alloc (.cells #[.int .i64 a,.int .i64 b,.int .i64 c] 28)) wr) (fun i _=>st.recs.length - (intOf i).toNat)
 case atStart=>exact ⟨0,Nat.zero_le _,rfl,rfl,Below.refl _ _⟩
 case round =>
  obtain ⟨k,hk,rfl,Hl,hnx⟩:=hrel
  have hnz:=hnx.size
  simp only [World.size_alloc] at hnz
  have c4:wr.cell? ⟨r,5,none⟩=some (.slice ao st.recs.length cap):=by rw [hnx.cell (p:=⟨r,5,none⟩) (by simp; omega),World.cell?_alloc_lt _ _ _ (by exact hrlt)]; exact hr4
  have x0:wr.cell? ⟨w.heap.size,0,none⟩=some (.int .i64 a):=by rw [hnx.cell (p:=⟨w.heap.size,0,none⟩) (by simp)]; simp
  have x1:wr.cell? ⟨w.heap.size,1,none⟩=some (.int .i64 b):=by rw [hnx.cell (p:=⟨w.heap.size,1,none⟩) (by simp)]; simp
  have x2:wr.cell? ⟨w.heap.size,2,none⟩=some (.int .i64 c):=by rw [hnx.cell (p:=⟨w.heap.size,2,none⟩) (by simp)]; simp
  by_cases hlt:k < st.recs.length
  ·obtain ⟨bt,rfl,_,hbt,hrg,_⟩:=hel k _ (List.getElem?_eq_getElem hlt)
   have gk:=List.getElem?_eq_getElem hlt
   generalize st.recs[k]=t at hrg gk
   have Gk:Hid (st.recs[k]?=some t):=gk
   clear gk
   have hrg':wr.rangeAt bt (k*10) (recC t):=rangeAt_below (World.rangeAt_alloc hrg _) hnx (by omega)
   obtain ⟨y0,y1,y2,_,_,_,_,_,y8,_⟩:=rec_cells hrg'
   have zk:(k:Int) < (st.recs.length:Int):=by omega
   clear hrg hrg' hel
   have kne:=kin_some wr
   have k4:=kin_cell c4
   have kx0:=kin_cell x0
   have kx1:=kin_cell x1
   have kx2:=kin_cell x2
   have ky0:=kin_cell y0
   have ky1:=kin_cell y1
   have ky2:=kin_cell y2
   by_cases hwt:t.waits=true
   ·have ky8:∀ x:Kin wr,x.w.cell? ⟨bt,k*10+8,none⟩=some (.bool true):=by rw [← hwt]; exact kin_cell y8
    have Hw:Hid (t.waits=true):=hwt
    clear hwt y8
    by_cases he:t.who=(a,b,c)
    ·have hs:sameW t.who.1 t.who.2.1 t.who.2.2 a b c=true:=sameW_t he
     have He:Hid (t.who=(a,b,c)):=he
     clear he
     go_wp2_with fail
     refine wp_region_kin (by kernel_rfl) (by kernel_rfl) ?_
     repeat (first | go_big_quiet_step ((go_at_call 46; exact Calls.kin (sameWho_is hs _))) | quiet_step ((go_at_call 46; exact Calls.kin (sameWho_is hs _))))
     refine wpQuiet_nil ?_
     intro _ hw'
     obtain ⟨xq,hw''⟩:=hw'
     subst hw''
     have hon:Below (w.heap.size+1) (w.alloc (.cells #[.int .i64 a,.int .i64 b,.int .i64 c] 28)) xq.w:=hnx.trans (xq.h.mono hnz)
     have hend:Below w.heap.size w xq.w:=((Below.refl _ _).alloc (Nat.le_refl _) _).trans (hon.mono (by omega))
     go_wp2
     go_ret
     refine ⟨?_,hend⟩
     have q:=Hl.out
     rw [drop_at Gk.out,waitIx,if_pos ⟨Hw.out,He.out⟩] at q
     exact ret_i q
    ·have hs:sameW t.who.1 t.who.2.1 t.who.2.2 a b c=false:=sameW_f he
     have He:Hid (¬ t.who=(a,b,c)):=he
     clear he
     go_wp2_with fail
     refine wp_region_kin (by kernel_rfl) (by kernel_rfl) ?_
     repeat (first | go_big_quiet_step ((go_at_call 46; exact Calls.kin (sameWho_is hs _))) | quiet_step ((go_at_call 46; exact Calls.kin (sameWho_is hs _))))
     refine wpQuiet_nil ?_
     intro _ hw'
     obtain ⟨xq,hw''⟩:=hw'
     subst hw''
     have hon:Below (w.heap.size+1) (w.alloc (.cells #[.int .i64 a,.int .i64 b,.int .i64 c] 28)) xq.w:=hnx.trans (xq.h.mono hnz)
     go_wp2
     go_roundw
     case rel =>
      refine ⟨k+1,by omega,by go_num,?_,hon⟩
      have q:=Hl.out
      rw [drop_at Gk.out,waitIx,if_neg (fun h=>He.out h.2)] at q
      exact q
     case measure=>simp [intOf]; omega
   ·have ky8:∀ x:Kin wr,x.w.cell? ⟨bt,k*10+8,none⟩=some (.bool false):=by
     have e:t.waits=false:=by simpa using hwt
     rw [← e]; exact kin_cell y8
    have Hw:Hid (¬ t.waits=true):=hwt
    clear hwt y8
    go_wp2_with fail
    refine wp_region_kin (by kernel_rfl) (by kernel_rfl) ?_
    repeat (first | go_big_quiet_step (fail) | quiet_step (fail))
    refine wpQuiet_nil ?_
    intro _ hw'
    obtain ⟨xq,hw''⟩:=hw'
    subst hw''
    have hon:Below (w.heap.size+1) (w.alloc (.cells #[.int .i64 a,.int .i64 b,.int .i64 c] 28)) xq.w:=hnx.trans (xq.h.mono hnz)
    go_wp2
    go_roundw
    case rel =>
     refine ⟨k+1,by omega,by go_num,?_,hon⟩
     have q:=Hl.out
     rw [drop_at Gk.out,waitIx,if_neg (fun h=>Hw.out h.1)] at q
     exact q
    case measure=>simp [intOf]; omega
  ·have e:k=st.recs.length:=by omega
   subst e
   go_wp2
   go_ret
   refine ⟨?_,((Below.refl _ _).alloc (Nat.le_refl _) _).trans (hnx.mono (by omega))⟩
   have q:=Hl.out
   rw [List.drop_length,waitIx] at q
   exact ret_i q
theorem hindered_any (r:Nat) (st:RS) (own:Own) (q:Rc) (w:World) (hm:Rep w r st own) :
  Calls Try.prog 109 #[.pointer (some ⟨r,0,none⟩),recV q] w fun e w'=>e=.returned (.bool (st.hindered q))∧Below w.heap.size w w':=by
 obtain ⟨g,vp,vt,vr,ve,m⟩:=hm
 obtain ⟨ao,cap,rfl,hmax,hel⟩:=m.recs.form len_recC
 have hrlt:=m.old r (by rw [m.rootTag]; simp)
 have hr4:w.cell? ⟨r,5,none⟩=some (.slice ao st.recs.length cap):=by rw [root_cell m.root]; rfl
 unfold maxLen at hmax
 clear m
 unfold recV
 go_enter Try.func109,Try.ntmps109
 go_wp2_with fail
 go_loopw [5] (fun i wr=>∃ k:Nat,k≤st.recs.length∧i=.int .i64 k∧Hid ((st.recs.drop k).any (fun a=>hindB a q)=st.hindered q)∧Below (w.heap.size+1) (w.alloc (.cells #[.int .i64 q.who.1,.int .i64 q.who.2.1,.int .i64 q.who.2.2,.int .i64 q.at_.1,.int .i64 q.at_.2,.int .i64 q.lo,.int .i64 q.hi,.bool q.write,.bool q.waits,.int .i64 q.came] 108)) wr) (fun i _=>st.recs.length - (intOf i).toNat)
 case atStart=>exact ⟨0,Nat.zero_le _,rfl,rfl,Below.refl _ _⟩
 case round =>
  obtain ⟨k,hk,rfl,Hl,hnx⟩:=hrel
  have hnz:=hnx.size
  simp only [World.size_alloc] at hnz
  have c4:wr.cell? ⟨r,5,none⟩=some (.slice ao st.recs.length cap):=by rw [hnx.cell (p:=⟨r,5,none⟩) (by simp; omega),World.cell?_alloc_lt _ _ _ (by exact hrlt)]; exact hr4
  have hbox:wr.rangeAt w.heap.size 0 (recC q):=by
   intro j u hj
   rw [hnx.cell (p:=⟨w.heap.size,0+j,none⟩) (by simp),World.cell?_alloc_new]
   simpa [recC] using hj
  obtain ⟨x0,x1,x2,x3,x4,x5,x6,x7,x8,x9⟩:=rec_cells hbox
  by_cases hlt:k < st.recs.length
  ·obtain ⟨bt,rfl,_,hbt,hrg,_⟩:=hel k _ (List.getElem?_eq_getElem hlt)
   have gk:=List.getElem?_eq_getElem hlt
   generalize st.recs[k]=t at hrg gk
   have Gk:Hid (st.recs[k]?=some t):=gk
   clear gk
   have hrg':wr.rangeAt bt (k*10) (recC t):=rangeAt_below (World.rangeAt_alloc hrg _) hnx (by omega)
   obtain ⟨y0,y1,y2,y3,y4,y5,y6,y7,y8,y9⟩:=rec_cells hrg'
   have zk:(k:Int) < (st.recs.length:Int):=by omega
   clear hrg hrg' hel hbox
   have kne:=kin_some wr
   have k4:=kin_cell c4
   have kx:=And.intro (kin_cell x0) <| And.intro (kin_cell x1) <| And.intro (kin_cell x2) <| And.intro (kin_cell x3) <| And.intro (kin_cell x4) <| And.intro (kin_cell x5) <| And.intro (kin_cell x6) <| And.intro (kin_cell x7) <| And.intro (kin_cell x8) (kin_cell x9)
   have ky:=And.intro (kin_cell y0) <| And.intro (kin_cell y1) <| And.intro (kin_cell y2) <| And.intro (kin_cell y3) <| And.intro (kin_cell y4) <| And.intro (kin_cell y5) <| And.intro (kin_cell y6) <| And.intro (kin_cell y7) <| And.intro (kin_cell y8) (kin_cell y9)
   obtain ⟨kx0,kx1,kx2,kx3,kx4,kx5,kx6,kx7,kx8,kx9⟩:=kx
   obtain ⟨ky0,ky1,ky2,ky3,ky4,ky5,ky6,ky7,ky8,ky9⟩:=ky
   clear x0 x1 x2 x3 x4 x5 x6 x7 x8 x9 y0 y1 y2 y3 y4 y5 y6 y7 y8 y9
   cases hs:hindB t q
   all_goals
    go_wp2_with fail
    refine wp_region_kin (by kernel_rfl) (by kernel_rfl) ?_
    repeat (first | go_big_quiet_step ((go_at_call 126; exact Calls.kin (hinders_is hs _))) | quiet_step ((go_at_call 126; exact Calls.kin (hinders_is hs _))))
    refine wpQuiet_nil ?_
    intro _ hw'
    obtain ⟨xq,hw''⟩:=hw'
    subst hw''
    have hon:=hnx.trans (xq.h.mono hnz)
    have hend:Below w.heap.size w xq.w:=((Below.refl _ _).alloc (Nat.le_refl _) _).trans (hon.mono (by omega))
   ·go_wp2
    go_roundw
    case rel =>
     refine ⟨k+1,by omega,by go_num,?_,hon⟩
     have q:=Hl.out
     rw [drop_at Gk.out,List.any_cons,hs,Bool.false_or] at q
     exact q
    case measure=>simp [intOf]; omega
   ·go_wp2
    go_ret
    refine ⟨ret_bool ?_,hend⟩
    have q:=Hl.out
    rw [drop_at Gk.out,List.any_cons,hs,Bool.true_or] at q
    exact q
  ·have e:k=st.recs.length:=by omega
   subst e
   go_wp2
   go_ret
   refine ⟨ret_bool ?_,((Below.refl _ _).alloc (Nat.le_refl _) _).trans (hnx.mono (by omega))⟩
   have q:=Hl.out
   rw [List.drop_length,List.any_nil] at q
   exact q
theorem waitIx_cases (x:Wh):∀ (l:List Rc) (k:Nat),(waitIx x l k=-1∧l.find? (isWt x)=none)∨∃ m c,waitIx x l k=((k+m:Nat):Int)∧l[m]?=some c∧l.find? (isWt x)=some c
 | [],k=>.inl ⟨rfl,rfl⟩
 | a :: l,k=>by
  by_cases h:a.waits=true∧a.who=x
  ·refine .inr ⟨0,a,?_,rfl,?_⟩
   ·rw [waitIx,if_pos h]; simp
   ·rw [List.find?_cons_of_pos]
    unfold isWt
    rw [h.1,Bool.true_and]
    exact sameW_t (by rw [h.2])
  ·have hp:isWt x a=false:=by
    unfold isWt
    cases hw:a.waits
    ·rfl
    ·rw [Bool.true_and]
     exact sameW_f (fun e=>h ⟨hw,e⟩)
   rw [waitIx,if_neg h,List.find?_cons_of_neg (by rw [hp]; simp)]
   rcases waitIx_cases x l (k+1) with ⟨h1,h2⟩ | ⟨m,c,h1,h2,h3⟩
   ·exact .inl ⟨h1,h2⟩
   ·exact .inr ⟨m+1,c,by rw [h1]; congr 1; omega,by simpa using h2,h3⟩
theorem waiting_cases (st:RS) (x:Wh):(st.waiting x=-1∧st.waitRec x=none)∨∃ (m:Nat) (c:Rc),st.waiting x=(m:Int)∧st.recs[m]?=some c∧st.waitRec x=some c:=by
 rcases waitIx_cases x st.recs 0 with h | ⟨m,c,h1,h2,h3⟩
 ·exact .inl h
 ·exact .inr ⟨m,c,by unfold RS.waiting; rw [h1]; simp,h2,h3⟩
theorem box2 (w:World) (c1 c2:Array Value) (t1 t2:Nat) (j:Nat):((w.alloc (.cells c1 t1)).alloc (.cells c2 t2)).cell? ⟨w.heap.size,j,none⟩=c1[j]?∧((w.alloc (.cells c1 t1)).alloc (.cells c2 t2)).cell? ⟨w.heap.size+1,j,none⟩=c2[j]?:=by
 constructor
 ·rw [World.cell?_alloc_lt _ _ _ (by simp),World.cell?_alloc_new]
 ·have:=World.cell?_alloc_new (w.alloc (.cells c1 t1)) c2 t2 j
  rw [World.size_alloc] at this; exact this
theorem waitsFor_any (r:Nat) (st:RS) (own:Own) (x y:Wh) (w:World) (hm:Rep w r st own) :
  Calls Try.prog 133 #[.pointer (some ⟨r,0,none⟩),.agg #[.int .i64 x.1,.int .i64 x.2.1,.int .i64 x.2.2],.agg #[.int .i64 y.1,.int .i64 y.2.1,.int .i64 y.2.2]] w fun e w'=>e=.returned (.bool (st.waitsFor x y))∧Below w.heap.size w w':=by
 have hrep:=hm
 obtain ⟨g,vp,vt,vr,ve,m⟩:=hm
 obtain ⟨ao,cap,rfl,hmax,hel⟩:=m.recs.form len_recC
 have hrlt:=m.old r (by rw [m.rootTag]; simp)
 have hr5:w.cell? ⟨r,5,none⟩=some (.slice ao st.recs.length cap):=by rw [root_cell m.root]; rfl
 unfold maxLen at hmax
 clear m
 go_enter Try.func133,Try.ntmps133
 go_wp2_with fail
 have hA:Below w.heap.size w ((w.alloc (.cells #[.int .i64 x.1,.int .i64 x.2.1,.int .i64 x.2.2] 28)).alloc (.cells #[.int .i64 y.1,.int .i64 y.2.1,.int .i64 y.2.2] 28)):=below2r
 have hbx:=box2 w #[.int .i64 x.1,.int .i64 x.2.1,.int .i64 x.2.2] #[.int .i64 y.1,.int .i64 y.2.1,.int .i64 y.2.2] 28 28
 have hzA:Hid (((w.alloc (.cells #[.int .i64 x.1,.int .i64 x.2.1,.int .i64 x.2.2] 28)).alloc (.cells #[.int .i64 y.1,.int .i64 y.2.1,.int .i64 y.2.2] 28)).heap.size=w.heap.size+2):=by unfold Hid; simp
 generalize (w.alloc (.cells #[.int .i64 x.1,.int .i64 x.2.1,.int .i64 x.2.2] 28)).alloc (.cells #[.int .i64 y.1,.int .i64 y.2.1,.int .i64 y.2.2] 28)=wA at *
 refine (waiting_any r st own x.1 x.2.1 x.2.2 _ (hrep.below hA)).mono ?_
 rintro e w1 ⟨rfl,hb1⟩
 have hB1:Below w.heap.size w w1:=hA.trans (hb1.mono hA.size)
 have hz1:w.heap.size+2≤w1.heap.size:=by have:=hb1.size; have:=hzA.out; omega
 have c5:w1.cell? ⟨r,5,none⟩=some (.slice ao st.recs.length cap):=cell_later hB1 hr5
 have hxb:∀ j,w1.cell? ⟨w.heap.size,j,none⟩=#[Value.int .i64 x.1,.int .i64 x.2.1,.int .i64 x.2.2][j]?:=fun j=>by rw [hb1.cell (p:=⟨w.heap.size,j,none⟩) (by have:=hzA.out; simp; omega)]; exact (hbx j).1
 have hyb:∀ j,w1.cell? ⟨w.heap.size+1,j,none⟩=#[Value.int .i64 y.1,.int .i64 y.2.1,.int .i64 y.2.2][j]?:=fun j=>by rw [hb1.cell (p:=⟨w.heap.size+1,j,none⟩) (by have:=hzA.out; simp; omega)]; exact (hbx j).2
 have x0:w1.cell? ⟨w.heap.size,0,none⟩=some (.int .i64 x.1):=hxb 0
 have x1:w1.cell? ⟨w.heap.size,1,none⟩=some (.int .i64 x.2.1):=hxb 1
 have z0:w1.cell? ⟨w.heap.size+1,0,none⟩=some (.int .i64 y.1):=hyb 0
 have z1:w1.cell? ⟨w.heap.size+1,1,none⟩=some (.int .i64 y.2.1):=hyb 1
 have z2:w1.cell? ⟨w.heap.size+1,2,none⟩=some (.int .i64 y.2.2):=hyb 2
 have kne:=kin_some w1
 have k5:=kin_cell c5
 have kx0:=kin_cell x0
 have kx1:=kin_cell x1
 clear hb1 hxb hyb hbx hA hzA
 rcases waiting_cases st (x.1,x.2.1,x.2.2) with ⟨hw,hn⟩ | ⟨m,q,hw,hq,hn⟩
 ·rw [hw]
  have HF:Hid (st.waitsFor x y=false):=by unfold Hid RS.waitsFor; rw [show st.waitRec x=none from hn]
  go_wp2_with fail
  refine wp_region_kin (by kernel_rfl) (by kernel_rfl) ?_
  repeat (first | go_big_quiet_step (fail) | quiet_step (fail))
  refine wpQuiet_nil ?_
  intro _ hw'
  obtain ⟨xq,hw''⟩:=hw'
  subst hw''
  have hB2:Below w.heap.size w xq.w:=hB1.trans (xq.h.mono hB1.size)
  go_wp2
  go_ret
  exact ⟨ret_bool HF.out.symm,hB2⟩
 ·rw [hw]
  obtain ⟨bt,hao,_,hbt,hrgq,_⟩:=hel m q hq
  have hel2:Hid (∀ (k:Nat) (c:Rc),st.recs[k]?=some c→w.rangeAt bt (k*10) (recC c)):=fun k c hc=>by
   obtain ⟨b',e1,_,_,h,_⟩:=hel k c hc
   rw [hao] at e1
   injection e1 with e2; injection e2 with e3; subst e3
   exact h
  subst hao
  have nm:decide ((m:Int) < 0)=false:=by simp
  have zm:(m:Int) < (st.recs.length:Int):=by have:=(List.getElem?_eq_some_iff.1 hq).1; omega
  have HWR:Hid (st.waitRec x=some q):=hn
  obtain ⟨u0,u1,u2,u3,u4,u5,u6,u7,u8,u9⟩:=rec_cells (rangeAt_below hrgq hB1 hbt)
  have ku3:=kin_cell u3
  have ku4:=kin_cell u4
  have HQ:Hid (w1.rangeAt bt (m*10) (recC q)):=rangeAt_below hrgq hB1 hbt
  clear hel hrgq u0 u1 u2 u3 u4 u5 u6 u7 u8 u9 hn
  cases hsl:sameL q.at_.1 q.at_.2 x.1 x.2.1
  ·have HF:Hid (st.waitsFor x y=false):=by unfold Hid RS.waitsFor; rw [HWR.out]; simp [hsl]
   go_wp2_with fail
   refine wp_region_kin (by kernel_rfl) (by kernel_rfl) ?_
   repeat (first | go_big_quiet_step ((go_at_call 64; exact Calls.kin (sameLabel_is hsl _))) | quiet_step ((go_at_call 64; exact Calls.kin (sameLabel_is hsl _))))
   refine wpQuiet_nil ?_
   intro _ hw'
   obtain ⟨xq,hw''⟩:=hw'
   subst hw''
   have hB2:Below w.heap.size w xq.w:=hB1.trans (xq.h.mono hB1.size)
   go_wp2
   go_ret
   exact ⟨ret_bool HF.out.symm,hB2⟩
  ·have HF:Hid (st.waitsFor x y=st.recs.any (forP y q)):=by unfold Hid RS.waitsFor; rw [HWR.out]; simp [hsl]
   go_wp2_with fail
   refine wp_region_kin (by kernel_rfl) (by kernel_rfl) ?_
   repeat (first | go_big_quiet_step ((go_at_call 64; exact Calls.kin (sameLabel_is hsl _))) | quiet_step ((go_at_call 64; exact Calls.kin (sameLabel_is hsl _))))
   refine wpQuiet_nil ?_
   intro _ hw'
   obtain ⟨xq,hw''⟩:=hw'
   subst hw''
   have hBq:Below w1.heap.size w1 xq.w:=xq.h
   clear kne k5 kx0 kx1 ku3 ku4
   go_wp2_with fail
   go_loopw [8] (fun i wr=>∃ k:Nat,k≤st.recs.length∧i=.int .i64 k∧Hid ((st.recs.drop k).any (forP y q)=st.waitsFor x y)∧Below w1.heap.size w1 wr) (fun i _=>st.recs.length - (intOf i).toNat)
   case atStart=>exact ⟨0,Nat.zero_le _,rfl,by unfold Hid; rw [HF.out]; rfl,hBq⟩
   case round =>
    obtain ⟨k,hk,rfl,Hl,hnx⟩:=hrel
    have hB2:Below w.heap.size w wr:=hB1.trans (hnx.mono hB1.size)
    have hz2:=hnx.size
    have d5:=cell_later hnx c5
    by_cases hlt:k < st.recs.length
    ·have gk:=List.getElem?_eq_getElem hlt
     generalize st.recs[k]=t at gk
     have Gk:Hid (st.recs[k]?=some t):=gk
     have hrt:wr.rangeAt bt (k*10) (recC t):=rangeAt_below (hel2.out k t gk) hB2 hbt
     have hrq:wr.rangeAt bt (m*10) (recC q):=rangeAt_below HQ.out hnx (by have:=hB1.size; omega)
     obtain ⟨y0,y1,y2,y3,y4,y5,y6,y7,y8,y9⟩:=rec_cells hrt
     obtain ⟨v0,v1,v2,v3,v4,v5,v6,v7,v8,v9⟩:=rec_cells hrq
     have zk:(k:Int) < (st.recs.length:Int):=by omega
     have kne:=kin_some wr
     have k5:=kin_cell d5
     have kz0:=kin_cell (cell_later hnx z0)
     have kz1:=kin_cell (cell_later hnx z1)
     have kz2:=kin_cell (cell_later hnx z2)
     have ky:=And.intro (kin_cell y0) <| And.intro (kin_cell y1) <| And.intro (kin_cell y2) <| And.intro (kin_cell y3) <| And.intro (kin_cell y4) <| And.intro (kin_cell y5) <| And.intro (kin_cell y6) <| And.intro (kin_cell y7) <| And.intro (kin_cell y8) (kin_cell y9)
     have kv:=And.intro (kin_cell v0) <| And.intro (kin_cell v1) <| And.intro (kin_cell v2) <| And.intro (kin_cell v3) <| And.intro (kin_cell v4) <| And.intro (kin_cell v5) <| And.intro (kin_cell v6) <| And.intro (kin_cell v7) <| And.intro (kin_cell v8) (kin_cell v9)
     obtain ⟨ky0,ky1,ky2,ky3,ky4,ky5,ky6,ky7,ky8,ky9⟩:=ky
     obtain ⟨kv0,kv1,kv2,kv3,kv4,kv5,kv6,kv7,kv8,kv9⟩:=kv
     clear gk hrt hrq y0 y1 y2 y3 y4 y5 y6 y7 y8 y9 v0 v1 v2 v3 v4 v5 v6 v7 v8 v9
     cases hsw:sameW t.who.1 t.who.2.1 t.who.2.2 y.1 y.2.1 y.2.2
     ·go_wp2_with fail
      refine wp_region_kin (by kernel_rfl) (by kernel_rfl) ?_
      repeat (first | go_big_quiet_step ((go_at_call 46; exact Calls.kin (sameWho_is hsw _))) | quiet_step ((go_at_call 46; exact Calls.kin (sameWho_is hsw _))))
      refine wpQuiet_nil ?_
      intro _ hw'
      obtain ⟨xr,hw''⟩:=hw'
      subst hw''
      have hB3:Below w1.heap.size w1 xr.w:=hnx.trans (xr.h.mono hz2)
      go_wp2
      go_roundw
      case rel =>
       refine ⟨k+1,by omega,by go_num,?_,hB3⟩
       have qq:=Hl.out
       rw [drop_at Gk.out,List.any_cons,forP,hsw,Bool.false_and,Bool.false_or] at qq
       exact qq
      case measure=>simp [intOf]; omega
     ·cases hs:hindB t q
      all_goals
       go_wp2_with fail
       refine wp_region_kin (by kernel_rfl) (by kernel_rfl) ?_
       repeat (first | go_big_quiet_step (first | (go_at_call 46; exact Calls.kin (sameWho_is hsw _)) | (go_at_call 126; exact Calls.kin (hinders_is hs _))) | quiet_step (first | (go_at_call 46; exact Calls.kin (sameWho_is hsw _)) | (go_at_call 126; exact Calls.kin (hinders_is hs _))))
       refine wpQuiet_nil ?_
       intro _ hw'
       obtain ⟨xr,hw''⟩:=hw'
       subst hw''
       have hB3:Below w1.heap.size w1 xr.w:=hnx.trans (xr.h.mono hz2)
      ·go_wp2
       go_roundw
       case rel =>
        refine ⟨k+1,by omega,by go_num,?_,hB3⟩
        have qq:=Hl.out
        rw [drop_at Gk.out,List.any_cons,forP,hs,Bool.and_false,Bool.false_or] at qq
        exact qq
       case measure=>simp [intOf]; omega
      ·go_wp2
       go_ret
       refine ⟨ret_bool ?_,hB1.trans (hB3.mono hB1.size)⟩
       have qq:=Hl.out
       rw [drop_at Gk.out,List.any_cons,forP,hs,hsw,Bool.and_true,Bool.true_or] at qq
       exact qq
    ·have e:k=st.recs.length:=by omega
     subst e
     go_wp2
     go_ret
     refine ⟨ret_bool ?_,hB2⟩
     have qq:=Hl.out
     rw [List.drop_length,List.any_nil] at qq
     exact qq
theorem code_any (c:Int) (w:World) :
  Calls Try.prog 85 #[.int .i64 c] w fun e w'=>e=.returned (ansV c 0 (.slice none 0 0))∧Below w.heap.size w w':=by
 unfold ansV
 go_enter Try.func85,Try.ntmps85
 go_wp2
 exact bodyPost_ret (v:=.agg #[.int .i64 c,.int .i64 0,.slice none 0 0]) (by simp [results,Try.results85,go_sem]) rfl ⟨rfl,(Below.refl _ _).alloc (Nat.le_refl _) _⟩
theorem inList_any (own:Own) (tag:Tag) (v:Value) (l:List Int) (n:Int) (w:World) (hr:Row w own tag 3 1 v l (fun n=>[.int .i64 n])) :
  Calls Try.prog 132 #[v,.int .i64 n] w fun e w'=>e=.returned (.bool (inB l n))∧w=w':=by
 obtain ⟨ao,cap,rfl,hmax,hel⟩:=hr.form (fun _=>rfl)
 unfold maxLen at hmax
 clear hr
 go_enter Try.func132,Try.ntmps132
 go_wp2_with fail
 go_loop [5] (fun i=>∃ k:Nat,k≤l.length∧i=.int .i64 k∧Hid ((l.drop k).any (fun x=>x == n)=inB l n)) (fun i=>l.length - (intOf i).toNat)
 case atStart=>exact ⟨0,Nat.zero_le _,rfl,rfl⟩
 case round =>
  obtain ⟨k,hk,rfl,Hl⟩:=hrel
  by_cases hlt:k < l.length
  ·obtain ⟨bt,rfl,_,hbt,hrg,_⟩:=hel k _ (List.getElem?_eq_getElem hlt)
   have gk:=List.getElem?_eq_getElem hlt
   generalize l[k]=t at hrg gk
   have Gk:Hid (l[k]?=some t):=gk
   clear gk
   have y0:w.cell? ⟨bt,k,none⟩=some (.int .i64 t):=by have:=hrg 0 _ rfl; simpa using this
   have zk:(k:Int) < (l.length:Int):=by omega
   clear hrg hel
   cases hs:(t == n)
   ·go_wp2
    go_round
    case rel =>
     refine ⟨k+1,by omega,by go_num,?_⟩
     have q:=Hl.out
     rw [drop_at Gk.out,List.any_cons,hs,Bool.false_or] at q
     exact q
    case measure=>simp [intOf]; omega
   ·go_wp2
    go_ret
    refine ⟨ret_bool ?_,rfl⟩
    have q:=Hl.out
    rw [drop_at Gk.out,List.any_cons,hs,Bool.true_or] at q
    exact q
  ·have e:k=l.length:=by omega
   subst e
   go_wp2
   go_ret
   refine ⟨ret_bool ?_,rfl⟩
   have q:=Hl.out
   rw [List.drop_length,List.any_nil] at q
   exact q
theorem inList_is {own:Own} {tag:Tag} {v:Value} {l:List Int} {n:Int} {w:World} {b:Bool} (hr:Row w own tag 3 1 v l (fun n=>[.int .i64 n])) (h:inB l n=b) :
  Calls Try.prog 132 #[v,.int .i64 n] w fun e w'=>e=.returned (.bool b)∧Below w.heap.size w w':=by
 subst h
 exact (inList_any own tag v l n w hr).mono fun e w' ⟨h1,h2⟩=>⟨h1,by subst h2; exact Below.refl _ _⟩
theorem taken_any (r:Nat) (st:RS) (own:Own) (a b key:Int) (w:World) (hm:Rep w r st own) :
  Calls Try.prog 128 #[.pointer (some ⟨r,0,none⟩),.agg #[.int .i64 a,.int .i64 b],.int .i64 key] w fun e w'=>e=.returned (.bool (st.taken (a,b) key))∧Below w.heap.size w w':=by
 have hA:Below w.heap.size w (w.alloc (.cells #[.int .i64 a,.int .i64 b] 25)):=(Below.refl _ _).alloc (Nat.le_refl _) _
 by_cases hc0:0≤st.comm (a,b) key
 ·go_enter Try.func128,Try.ntmps128
  go_wp2_with fail
  refine (committed_any r st own a b key _ (hm.below hA)).mono ?_
  rintro e w1 ⟨rfl,hb1⟩
  have hB1:Below w.heap.size w w1:=hA.trans (hb1.mono hA.size)
  go_wp2
  go_ret
  exact ⟨ret_bool (by simp [RS.taken,hc0]),hB1⟩
 ·have Fin:Hid (st.taken (a,b) key=takIx (a,b) key st.txns):=by
   unfold Hid RS.taken; rw [decide_eq_false hc0,Bool.false_or]
  go_enter Try.func128,Try.ntmps128
  go_wp2_with fail
  refine (committed_any r st own a b key _ (hm.below hA)).mono ?_
  rintro e w1 ⟨rfl,hb1⟩
  have hB1:Below w.heap.size w w1:=hA.trans (hb1.mono hA.size)
  have hbox0:w1.cell? ⟨w.heap.size,0,none⟩=some (.int .i64 a):=by rw [hb1.cell (p:=⟨w.heap.size,0,none⟩) (by simp)]; simp
  have hbox1:w1.cell? ⟨w.heap.size,1,none⟩=some (.int .i64 b):=by rw [hb1.cell (p:=⟨w.heap.size,1,none⟩) (by simp)]; simp
  have hz1:w.heap.size < w1.heap.size:=by have:=hb1.size; simp at this; omega
  have hm1:=hm.below hB1
  obtain ⟨g,vp,vt,vr,ve,m⟩:=hm1
  obtain ⟨ao,cap,rfl,hmax,hel⟩:=m.txns.form (len_txnC g)
  have hput:=m.puts
  have hr4:w1.cell? ⟨r,4,none⟩=some (.slice ao st.txns.length cap):=by rw [root_cell m.root]; rfl
  unfold maxLen at hmax
  clear m hb1 hA hm
  go_wp2_with fail
  go_loopw [8] (fun i wr=>∃ k:Nat,k≤st.txns.length∧i=.int .i64 k∧Hid (takIx (a,b) key (st.txns.drop k)=takIx (a,b) key st.txns)∧Below w1.heap.size w1 wr) (fun i _=>st.txns.length - (intOf i).toNat)
  case atStart=>exact ⟨0,Nat.zero_le _,rfl,rfl,Below.refl _ _⟩
  case round =>
   obtain ⟨k,hk,rfl,Hl,hnx⟩:=hrel
   have c4:=cell_later hnx hr4
   have x0:=cell_later hnx hbox0
   have x1:=cell_later hnx hbox1
   have hend:Below w.heap.size w wr:=hB1.trans (hnx.mono (by omega))
   by_cases hlt:k < st.txns.length
   ·obtain ⟨bt,rfl,_,hbt,hrg,_⟩:=hel k _ (List.getElem?_eq_getElem hlt)
    have gk:=List.getElem?_eq_getElem hlt
    have hro:=(hput _ (List.getElem_mem hlt)).below hnx
    generalize st.txns[k]=t at hrg gk hro
    have Gk:Hid (st.txns[k]?=some t):=gk
    clear gk
    have hrg':wr.rangeAt bt (k*19) (txnC g t):=rangeAt_below hrg hnx (by omega)
    have y0:wr.cell? ⟨bt,k*19,none⟩=some (.int .i64 t.who.1):=hrg' 0 _ rfl
    have y1:wr.cell? ⟨bt,k*19+1,none⟩=some (.int .i64 t.who.2.1):=hrg' 1 _ rfl
    have y5:wr.cell? ⟨bt,k*19+5,none⟩=some (g t.who).2.1:=hrg' 5 _ rfl
    generalize (g t.who).2.1=vpt at y5 hro
    have zk:(k:Int) < (st.txns.length:Int):=by omega
    clear hrg hrg' hel hput
    have kne:=kin_some wr
    have k4:=kin_cell c4
    have kx0:=kin_cell x0
    have kx1:=kin_cell x1
    have ky0:=kin_cell y0
    have ky1:=kin_cell y1
    have ky5:=kin_cell y5
    have kro:∀ x:Kin wr,Row x.w own (7,t.who) 3 1 vpt t.puts (fun n=>[.int .i64 n]):=fun x=>hro.below x.h
    have Kro:Hid (∀ x:Kin wr,Row x.w own (7,t.who) 3 1 vpt t.puts (fun n=>[.int .i64 n])):=kro
    clear kro
    cases hs:sameL t.who.1 t.who.2.1 a b
    ·go_wp2_with fail
     refine wp_region_kin (by kernel_rfl) (by kernel_rfl) ?_
     repeat (first | go_big_quiet_step ((go_at_call 64; exact Calls.kin (sameLabel_is hs _))) | quiet_step ((go_at_call 64; exact Calls.kin (sameLabel_is hs _))))
     refine wpQuiet_nil ?_
     intro _ hw'
     obtain ⟨xq,hw''⟩:=hw'
     subst hw''
     have hon:=hnx.trans (xq.h.mono hnx.size)
     go_wp2
     go_roundw
     case rel =>
      refine ⟨k+1,by omega,by go_num,?_,hon⟩
      have q:=Hl.out
      rw [drop_at Gk.out,takIx,List.any_cons,hs,Bool.false_and,Bool.false_or] at q
      exact q
     case measure=>simp [intOf]; omega
    ·cases hs2:inB t.puts key
     all_goals
      go_wp2_with fail
      refine wp_region_kin (by kernel_rfl) (by kernel_rfl) ?_
      repeat (first | go_big_quiet_step (first | (go_at_call 64; exact Calls.kin (sameLabel_is hs _)) | (go_at_call 132; exact Calls.kin (inList_is (Kro.out _) hs2))) | quiet_step (fail))
      refine wpQuiet_nil ?_
      intro _ hw'
      obtain ⟨xq,hw''⟩:=hw'
      subst hw''
      have hon:=hnx.trans (xq.h.mono hnx.size)
     ·go_wp2
      go_roundw
      case rel =>
       refine ⟨k+1,by omega,by go_num,?_,hon⟩
       have q:=Hl.out
       rw [drop_at Gk.out,takIx,List.any_cons,hs2,Bool.and_false,Bool.false_or] at q
       exact q
      case measure=>simp [intOf]; omega
     ·go_wp2
      go_ret
      refine ⟨ret_bool ?_,hend.trans (xq.h.mono hend.size)⟩
      have q:=Hl.out
      rw [drop_at Gk.out,takIx,List.any_cons,hs2,hs] at q
      rw [Fin.out,← q]; rfl
   ·have e:k=st.txns.length:=by omega
    subst e
    go_wp2
    go_ret
    refine ⟨ret_bool ?_,hend⟩
    have q:=Hl.out
    rw [List.drop_length,takIx,List.any_nil] at q
    rw [Fin.out,← q]
end Go.Proofs.Ytpbcplfpjcacfaa
