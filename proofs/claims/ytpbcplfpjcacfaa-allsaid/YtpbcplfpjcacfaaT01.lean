import Derived.Test.YtpbcplfpjcacfaaF01
namespace Go.Proofs.Ytpbcplfpjcacfaa
open Go.RowKit
set_option maxRecDepth 100000
set_option maxHeartbeats 8000000
theorem isLabel_any (l c:Int) (w:World) :
  Calls Try.prog 40 #[.agg #[.int .i64 l,.int .i64 c]] w fun e w'=>e=.returned (.bool (labB l c))∧Below w.heap.size w w':=by
 go_enter Try.func40,Try.ntmps40
 go_wp2
 all_goals go_ret
 all_goals refine ⟨ret_bool ?_,(Below.refl _ _).alloc (Nat.le_refl _) _⟩
 all_goals first | exact labB_last ‹_› ‹_› ‹_› | (symm; apply labB_not; omega)
theorem mayB_not {k v c:Int} (h:¬ (1≤k∧k≤16∧1≤v∧v≤4∧1≤c∧c≤32)):mayB k v c=false:=decide_eq_false h
theorem mayB_last {k v c:Int} (h1:1≤k) (h2:k≤16) (h3:1≤v) (h4:v≤4) (h5:1≤c):decide (c≤32)=mayB k v c:=by
 unfold mayB; simp [h1,h2,h3,h4,h5]
theorem may_any (k v c:Int) (w:World) :
  Calls Try.prog 42 #[.agg #[.int .i64 k,.int .i64 v,.int .i64 c]] w fun e w'=>e=.returned (.bool (mayB k v c))∧Below w.heap.size w w':=by
 go_enter Try.func42,Try.ntmps42
 go_wp2
 all_goals go_ret
 all_goals refine ⟨ret_bool ?_,(Below.refl _ _).alloc (Nat.le_refl _) _⟩
 all_goals first | exact mayB_last ‹_› ‹_› ‹_› ‹_› ‹_› | (symm; apply mayB_not; omega)
theorem num_any (n:Int) (w:World) :
  Calls Try.prog 43 #[.int .i64 n] w fun e w'=>e=.returned (.int .i64 n)∧w=w':=by
 go_enter Try.func43,Try.ntmps43
 go_wp2
 go_ret
 exact ⟨rfl,rfl⟩
theorem sameL_last {a b c d:Int} (h:a=c):(b == d)=sameL a b c d:=by unfold sameL; simp [h,Bool.beq_eq_decide_eq]
theorem sameL_not {a b c d:Int} (h:¬ a=c):sameL a b c d=false:=by unfold sameL; simp [h]
theorem sameLabel_any (a b c d:Int) (w:World) :
  Calls Try.prog 64 #[.agg #[.int .i64 a,.int .i64 b],.agg #[.int .i64 c,.int .i64 d]] w fun e w'=>e=.returned (.bool (sameL a b c d))∧Below w.heap.size w w':=by
 by_cases hac:a=c
 ·subst hac
  go_enter Try.func64,Try.ntmps64
  go_wp2
  go_ret
  exact ⟨ret_bool (sameL_last rfl),((Below.refl _ _).alloc (Nat.le_refl _) _).alloc (by simp) _⟩
 ·have hb:(a == c)=false:=by simp [hac]
  go_enter Try.func64,Try.ntmps64
  go_wp2
  go_ret
  exact ⟨ret_bool (sameL_not hac).symm,((Below.refl _ _).alloc (Nat.le_refl _) _).alloc (by simp) _⟩
theorem refnew_any (k v c:Int) (w:World) :
  Calls Try.prog 44 #[.agg #[.int .i64 k,.int .i64 v,.int .i64 c]] w fun e w'=>e=.returned (.pointer (some ⟨w.heap.size+1,0,none⟩))∧(w.alloc (.cells #[.int .i64 k,.int .i64 v,.int .i64 c] 23)).alloc (.cells #[.int .i64 k,.int .i64 v,.int .i64 c,.slice none 0 0,.slice none 0 0,.slice none 0 0,.slice none 0 0,.int .i64 0,.int .i64 0] 106)=w':=by
 go_enter Try.func44,Try.ntmps44
 go_wp2
 go_ret
 exact ⟨rfl,rfl⟩
theorem same_go (b1 o1 cap1 b2 o2 cap2:Nat) (l1 l2:List (Int × Int)) (w:World) (hlen:l1.length=l2.length) (hm:l1.length≤maxLen)
  (h1:w.rangeAt b1 o1 (itemsV l1)) (h2:w.rangeAt b2 o2 (itemsV l2)) :
  Calls Try.prog 66 #[.slice (some ⟨b1,o1,none⟩) l1.length cap1,.slice (some ⟨b2,o2,none⟩) l2.length cap2] w fun e w' =>
   e=.returned (.bool (decide (l1=l2)))∧Below w.heap.size w w':=by
 unfold maxLen at hm
 have Hl:Hid (l1.length=l2.length):=hlen
 have hq:((l1.length:Int) != (l2.length:Int))=false:=by simp [hlen]
 clear hlen
 go_enter Try.func66,Try.ntmps66
 go_wp2_with fail
 go_loopw [5] (fun i wr=>∃ k:Nat,k≤l1.length∧i=.int .i64 k∧l1.take k=l2.take k∧∃ nq,w.drewN nq=wr) (fun i _=>l1.length - (intOf i).toNat)
 case atStart=>exact ⟨0,Nat.zero_le _,rfl,rfl,0,rfl⟩
 case round =>
  obtain ⟨k,hk,rfl,ht,nq,rfl⟩:=hrel
  have Ht:Hid (l1.take k=l2.take k):=ht
  clear ht
  by_cases hlt:k < l1.length
  ·have hlt2:k < l2.length:=by rw [← Hl.out]; exact hlt
   have g1:=List.getElem?_eq_getElem hlt
   have g2:=List.getElem?_eq_getElem hlt2
   generalize l1[k]=x1 at g1
   generalize l2[k]=x2 at g2
   obtain ⟨p1,q1⟩:=range_item h1 k x1 g1
   obtain ⟨p2,q2⟩:=range_item h2 k x2 g2
   have G1:Hid (l1[k]?=some x1):=g1
   have G2:Hid (l2[k]?=some x2):=g2
   clear g1 g2 h1 h2
   have z1:(k:Int) < (l1.length:Int):=by omega
   have z2:(k:Int) < (l2.length:Int):=by omega
   by_cases e1:x1.1=x2.1
   ·have d1:(x1.1 != x2.1)=false:=by simp [e1]
    have E1:Hid (x1.1=x2.1):=e1
    clear e1
    by_cases e2:x1.2=x2.2
    ·have d2:(x1.2 != x2.2)=false:=by simp [e2]
     have E2:Hid (x1.2=x2.2):=e2
     clear e2
     go_wp2_with fail
     go_quiet (fail)
     go_wp2
     go_roundw
     case rel=>exact ⟨k+1,by omega,by go_num,take_same G1.out (by rw [G2.out,Prod.ext E1.out E2.out]) Ht.out,_,rfl⟩
     case measure=>simp [intOf]; omega
    ·have d2:(x1.2 != x2.2)=true:=by simp [e2]
     go_wp2_with fail
     go_quiet (fail)
     go_wp2
     go_ret
     exact ⟨ret_bool (at_differs G1.out G2.out (fun e=>e2 (by rw [e]))).symm,below_drewN2 _ _⟩
   ·have d1:(x1.1 != x2.1)=true:=by simp [e1]
    go_wp2_with fail
    go_quiet (fail)
    go_wp2
    go_ret
    exact ⟨ret_bool (at_differs G1.out G2.out (fun e=>e1 (by rw [e]))).symm,below_drewN2 _ _⟩
  ·have e:k=l1.length:=by omega
   subst e
   go_wp2
   go_ret
   refine ⟨ret_bool ?_,below_drewN _⟩
   have t:=Ht.out
   rw [List.take_length,Hl.out,List.take_length] at t
   simp [t]
theorem same_len (a1 a2:Option Addr) (n1 n2 cap1 cap2:Nat) (w:World) (hlen:n1≠n2) :
  Calls Try.prog 66 #[.slice a1 n1 cap1,.slice a2 n2 cap2] w fun e w'=>e=.returned (.bool false)∧w=w':=by
 have hq:((n1:Int) != (n2:Int))=true:=by simp; omega
 go_enter Try.func66,Try.ntmps66
 go_wp2
 go_ret
 exact ⟨rfl,rfl⟩
theorem same_nil (a1 a2:Option Addr) (cap1 cap2:Nat) (w:World) :
  Calls Try.prog 66 #[.slice a1 0 cap1,.slice a2 0 cap2] w fun e w'=>e=.returned (.bool true)∧w=w':=by
 go_enter Try.func66,Try.ntmps66
 go_wp2
 go_loop [5] (fun i=>i=.int .i64 0) (fun _=>0)
 case atStart=>rfl
 case round =>
  subst hrel
  go_wp2
  go_ret
  exact ⟨rfl,rfl⟩
theorem sameItems_any (v1 v2:Value) (l1 l2:List (Int × Int)) (w:World) (h1:isItems w v1 l1) (h2:isItems w v2 l2) :
  Calls Try.prog 66 #[v1,v2] w fun e w'=>e=.returned (.bool (decide (l1=l2)))∧Below w.heap.size w w':=by
 by_cases hl:l1.length=l2.length
 ·by_cases hz:l1.length=0
  ·have e1:l1=[]:=List.eq_nil_of_length_eq_zero hz
   have e2:l2=[]:=List.eq_nil_of_length_eq_zero (by omega)
   subst e1 e2
   have f:∀ v,isItems w v []→∃ a c,v=.slice a 0 c:=by
    intro v hv
    rcases hv with ⟨rfl,_⟩ | ⟨b,o,cap,rfl,_⟩
    ·exact ⟨_,_,rfl⟩
    ·exact ⟨_,_,rfl⟩
   obtain ⟨a1,c1,rfl⟩:=f v1 h1
   obtain ⟨a2,c2,rfl⟩:=f v2 h2
   refine (same_nil a1 a2 c1 c2 w).mono ?_
   rintro e w' ⟨rfl,rfl⟩
   exact ⟨by simp,Below.refl _ _⟩
  ·rcases h1 with ⟨_,rfl⟩ | ⟨b1,o1,cap1,rfl,r1,m1⟩
   ·exact absurd rfl hz
   rcases h2 with ⟨_,rfl⟩ | ⟨b2,o2,cap2,rfl,r2,m2⟩
   ·exact absurd hl hz
   exact same_go b1 o1 cap1 b2 o2 cap2 l1 l2 w hl m1 r1 r2
 ·have f:∀ v l,isItems w v l→∃ a c,v=.slice a l.length c:=by
   intro v l hv
   rcases hv with ⟨rfl,rfl⟩ | ⟨b,o,cap,rfl,_⟩
   ·exact ⟨_,_,rfl⟩
   ·exact ⟨_,_,rfl⟩
  obtain ⟨a1,c1,rfl⟩:=f v1 l1 h1
  obtain ⟨a2,c2,rfl⟩:=f v2 l2 h2
  refine (same_len a1 a2 _ _ c1 c2 w hl).mono ?_
  rintro e w' ⟨rfl,rfl⟩
  refine ⟨ret_bool ?_,Below.refl _ _⟩
  symm; apply decide_eq_false
  intro e; rw [e] at hl; exact hl rfl
theorem root_cell {w:World} {r:Nat} {C:Array Value} {t:Nat} (h:w.heap[r]?=some (.cells C t (0,0))) (j:Nat):w.cell? ⟨r,j,none⟩=C[j]?:=cell_of_row w r j C t (0,0) h
theorem len_txnC (g:Gh) (t:Tx):(txnC g t).length=19:=by simp [txnC,stepC]
theorem len_recC (r:Rc):(recC r).length=10:=rfl
theorem len_placeC (p:Plc):(placeC p).length=4:=rfl
theorem len_endC (x:Wh × Int):(endC x).length=4:=rfl
theorem Row.below {α:Type} {w w':World} {own:Own} {tag:Tag} {e size:Nat} {v:Value} {l:List α} {f:α→List Value} (h:Row w own tag e size v l f) (hb:Below w.heap.size w w'):Row w' own tag e size v l f :=
 ⟨h.1.kept (row:=none) ⟨hb.os,hb.tape,hb.output,hb.size,fun k hk _=>hb.block k hk⟩ (by cases hv:v.ownBlock<;>simp),h.2⟩
theorem Mem.below {w w':World} {r:Nat} {st:RS} {own:Own} {g:Gh} {vp vt vr ve:Value} (h:Mem w r st own g vp vt vr ve) (hb:Below w.heap.size w w'):Mem w' r st own g vp vt vr ve where
 root:=by rw [hb.block r (h.old r (by rw [h.rootTag]; simp))]; exact h.root
 rootTag:=h.rootTag
 places:=h.places.below hb
 txns:=h.txns.below hb
 recs:=h.recs.below hb
 ended:=h.ended.below hb
 olds:=fun t ht=>(h.olds t ht).below hb
 puts:=fun t ht=>(h.puts t ht).below hb
 told:=fun t ht hr=>(h.told t ht hr).below hb
 toldV:=h.toldV
 old:=fun k hk=>Nat.lt_of_lt_of_le (h.old k hk) hb.size
theorem Rep.below {w w':World} {r:Nat} {st:RS} {own:Own} (h:Rep w r st own) (hb:Below w.heap.size w w'):Rep w' r st own:=by
 obtain ⟨g,vp,vt,vr,ve,m⟩:=h
 exact ⟨g,vp,vt,vr,ve,m.below hb⟩
end Go.Proofs.Ytpbcplfpjcacfaa
namespace Go.Proofs.Ytpbcplfpjcacfaa
open Go.RowKit
attribute [local go_sem ↓] Go.wp_at_zero Go.wp_at_succ
set_option maxRecDepth 100000
set_option maxHeartbeats 8000000
theorem ret_i {k:IntKind} {a b:Int} (h:a=b):Ending.returned (.int k a)=.returned (.int k b):=by rw [h]
theorem sameWho_any (a b c d e f:Int) (w:World) :
  Calls Try.prog 46 #[.agg #[.int .i64 a,.int .i64 b,.int .i64 c],.agg #[.int .i64 d,.int .i64 e,.int .i64 f]] w fun e' w'=>e'=.returned (.bool (sameW a b c d e f))∧Below w.heap.size w w':=by
 cases hs:sameL a b d e
 ·go_enter Try.func46,Try.ntmps46
  go_wp2_with fail
  refine (sameLabel_any _ _ _ _ _).mono ?_
  rintro e' w1 ⟨rfl,hb⟩
  rw [hs]
  go_wp2
  go_ret
  refine ⟨ret_bool ?_,(((Below.refl _ _).alloc (Nat.le_refl _) _).alloc (by simp) _).trans (hb.mono (by simp; omega))⟩
  simp [sameL,sameW] at *
  intro h1 h2; exact absurd h2 (hs h1)
 ·go_enter Try.func46,Try.ntmps46
  go_wp2_with fail
  refine (sameLabel_any _ _ _ _ _).mono ?_
  rintro e' w1 ⟨rfl,hb⟩
  rw [hs]
  obtain ⟨hc,hf⟩:=bcell hb
  go_wp2
  go_ret
  refine ⟨ret_bool ?_,(((Below.refl _ _).alloc (Nat.le_refl _) _).alloc (by simp) _).trans (hb.mono (by simp; omega))⟩
  simp [sameL,sameW] at *
  simp [hs,Bool.beq_eq_decide_eq]
theorem sameWho_is {a b c d e f:Int} {v:Bool} (hs:sameW a b c d e f=v) (w:World) :
  Calls Try.prog 46 #[.agg #[.int .i64 a,.int .i64 b,.int .i64 c],.agg #[.int .i64 d,.int .i64 e,.int .i64 f]] w fun e' w'=>e'=.returned (.bool v)∧Below w.heap.size w w':=by
 subst hs; exact sameWho_any a b c d e f w
theorem live_any (r:Nat) (st:RS) (own:Own) (a b c:Int) (w:World) (hm:Rep w r st own) :
  Calls Try.prog 87 #[.pointer (some ⟨r,0,none⟩),.agg #[.int .i64 a,.int .i64 b,.int .i64 c]] w fun e w'=>e=.returned (.int .i64 (st.live (a,b,c)))∧Below w.heap.size w w':=by
 obtain ⟨g,vp,vt,vr,ve,m⟩:=hm
 obtain ⟨ao,cap,rfl,hmax,hel⟩:=m.txns.form (len_txnC g)
 have hrlt:=m.old r (by rw [m.rootTag]; simp)
 have hr4:w.cell? ⟨r,4,none⟩=some (.slice ao st.txns.length cap):=by rw [root_cell m.root]; rfl
 unfold maxLen at hmax
 clear m
 go_enter Try.func87,Try.ntmps87
 go_wp2_with fail
 go_loopw [5] (fun i wr=>∃ k:Nat,k≤st.txns.length∧i=.int .i64 k∧Hid (liveIx (a,b,c) (st.txns.drop k) k=st.live (a,b,c))∧Below (w.heap.size+1) (w.alloc (.cells #[.int .i64 a,.int .i64 b,.int .i64 c] 28)) wr) (fun i _=>st.txns.length - (intOf i).toNat)
 case atStart=>exact ⟨0,Nat.zero_le _,rfl,rfl,Below.refl _ _⟩
 case round =>
  obtain ⟨k,hk,rfl,Hl,hnx⟩:=hrel
  have hnz:=hnx.size
  simp only [World.size_alloc] at hnz
  have c4:wr.cell? ⟨r,4,none⟩=some (.slice ao st.txns.length cap):=by rw [hnx.cell (p:=⟨r,4,none⟩) (by simp; omega),World.cell?_alloc_lt _ _ _ (by exact hrlt)]; exact hr4
  have x0:wr.cell? ⟨w.heap.size,0,none⟩=some (.int .i64 a):=by rw [hnx.cell (p:=⟨w.heap.size,0,none⟩) (by simp)]; simp
  have x1:wr.cell? ⟨w.heap.size,1,none⟩=some (.int .i64 b):=by rw [hnx.cell (p:=⟨w.heap.size,1,none⟩) (by simp)]; simp
  have x2:wr.cell? ⟨w.heap.size,2,none⟩=some (.int .i64 c):=by rw [hnx.cell (p:=⟨w.heap.size,2,none⟩) (by simp)]; simp
  by_cases hlt:k < st.txns.length
  ·obtain ⟨bt,rfl,_,hbt,hrg,_⟩:=hel k _ (List.getElem?_eq_getElem hlt)
   have gk:=List.getElem?_eq_getElem hlt
   generalize st.txns[k]=t at hrg gk
   have Gk:Hid (st.txns[k]?=some t):=gk
   clear gk
   have hrg':wr.rangeAt bt (k*19) (txnC g t):=rangeAt_below (World.rangeAt_alloc hrg _) hnx (by omega)
   have y0:wr.cell? ⟨bt,k*19,none⟩=some (.int .i64 t.who.1):=hrg' 0 _ rfl
   have y1:wr.cell? ⟨bt,k*19+1,none⟩=some (.int .i64 t.who.2.1):=hrg' 1 _ rfl
   have y2:wr.cell? ⟨bt,k*19+2,none⟩=some (.int .i64 t.who.2.2):=hrg' 2 _ rfl
   have zk:(k:Int) < (st.txns.length:Int):=by omega
   clear hrg hrg' hel
   by_cases he:t.who=(a,b,c)
   ·have hs:sameW t.who.1 t.who.2.1 t.who.2.2 a b c=true:=sameW_t he
    have He:Hid (t.who=(a,b,c)):=he
    clear he
    go_wp2_with fail
    go_region_held3 (fun w'=>w'.cell? ⟨r,4,none⟩=some (.slice (some ⟨bt,0,none⟩) st.txns.length cap)∧w'.cell? ⟨w.heap.size,0,none⟩=some (.int .i64 a)∧w'.cell? ⟨w.heap.size,1,none⟩=some (.int .i64 b)∧w'.cell? ⟨w.heap.size,2,none⟩=some (.int .i64 c) ∧
     w'.cell? ⟨bt,k*19,none⟩=some (.int .i64 t.who.1)∧w'.cell? ⟨bt,k*19+1,none⟩=some (.int .i64 t.who.2.1)∧w'.cell? ⟨bt,k*19+2,none⟩=some (.int .i64 t.who.2.2)) (first | go_keep | (go_split_ands; (repeat' constructor)<;>exact cell_later hb1 (by assumption)))
     (first | (go_at_call 46; refine (sameWho_is hs _).mono ?_; rintro e w1 ⟨rfl,hb1⟩))
    go_wp2
    go_ret
    refine ⟨?_,?_⟩
    ·have q:=Hl.out
     rw [drop_at Gk.out,liveIx,if_pos He.out] at q
     exact ret_i q
    ·exact ((Below.refl _ _).alloc (Nat.le_refl _) _).trans ((hnx.mono (by omega)).drew.trans (hb1.mono (by simp; omega)))
   ·have hs:sameW t.who.1 t.who.2.1 t.who.2.2 a b c=false:=sameW_f he
    have He:Hid (¬ t.who=(a,b,c)):=he
    clear he
    go_wp2_with fail
    go_region_held3 (fun w'=>w'.cell? ⟨r,4,none⟩=some (.slice (some ⟨bt,0,none⟩) st.txns.length cap)∧w'.cell? ⟨w.heap.size,0,none⟩=some (.int .i64 a)∧w'.cell? ⟨w.heap.size,1,none⟩=some (.int .i64 b)∧w'.cell? ⟨w.heap.size,2,none⟩=some (.int .i64 c) ∧
     w'.cell? ⟨bt,k*19,none⟩=some (.int .i64 t.who.1)∧w'.cell? ⟨bt,k*19+1,none⟩=some (.int .i64 t.who.2.1)∧w'.cell? ⟨bt,k*19+2,none⟩=some (.int .i64 t.who.2.2)) (first | go_keep | (go_split_ands; (repeat' constructor)<;>exact cell_later hb1 (by assumption)))
     (first | (go_at_call 46; refine (sameWho_is hs _).mono ?_; rintro e w1 ⟨rfl,hb1⟩))
    go_wp2
    go_roundw
    case rel =>
     refine ⟨k+1,by omega,by go_num,?_,?_⟩
     ·have q:=Hl.out
      rw [drop_at Gk.out,liveIx,if_neg He.out] at q
      exact q
     ·exact hnx.drew.trans (hb1.mono (by simp; omega))
    case measure=>simp [intOf]; omega
  ·have e:k=st.txns.length:=by omega
   subst e
   go_wp2
   go_ret
   refine ⟨?_,?_⟩
   ·have q:=Hl.out
    rw [List.drop_length,liveIx] at q
    exact ret_i q
   ·exact ((Below.refl _ _).alloc (Nat.le_refl _) _).trans (hnx.mono (by omega))
theorem sameL_f {a b c d:Int} (h:¬ (a,b)=((c,d):Lab)):sameL a b c d=false:=by simp at h; simpa [sameL] using h
theorem sameLabel_is {a b c d:Int} {v:Bool} (hs:sameL a b c d=v) (w:World) :
  Calls Try.prog 64 #[.agg #[.int .i64 a,.int .i64 b],.agg #[.int .i64 c,.int .i64 d]] w fun e w'=>e=.returned (.bool v)∧Below w.heap.size w w':=by
 subst hs; exact sameLabel_any a b c d w
theorem value_any (r:Nat) (st:RS) (own:Own) (a b key:Int) (w:World) (hm:Rep w r st own) :
  Calls Try.prog 107 #[.pointer (some ⟨r,0,none⟩),.agg #[.int .i64 a,.int .i64 b],.int .i64 key] w fun e w'=>e=.returned (.int .i64 (st.val (a,b) key))∧Below w.heap.size w w':=by
 obtain ⟨g,vp,vt,vr,ve,m⟩:=hm
 obtain ⟨ao,cap,rfl,hmax,hel⟩:=m.places.form len_placeC
 have hrlt:=m.old r (by rw [m.rootTag]; simp)
 have hr4:w.cell? ⟨r,3,none⟩=some (.slice ao st.places.length cap):=by rw [root_cell m.root]; rfl
 unfold maxLen at hmax
 clear m
 go_enter Try.func107,Try.ntmps107
 go_wp2_with fail
 go_loopw [7] (fun i wr=>∃ k:Nat,k≤st.places.length∧i=.int .i64 k∧Hid (valIx (a,b) key (st.places.drop k)=st.val (a,b) key)∧Below (w.heap.size+1) (w.alloc (.cells #[.int .i64 a,.int .i64 b] 25)) wr) (fun i _=>st.places.length - (intOf i).toNat)
 case atStart=>exact ⟨0,Nat.zero_le _,rfl,rfl,Below.refl _ _⟩
 case round =>
  obtain ⟨k,hk,rfl,Hl,hnx⟩:=hrel
  have hnz:=hnx.size
  simp only [World.size_alloc] at hnz
  have c4:wr.cell? ⟨r,3,none⟩=some (.slice ao st.places.length cap):=by rw [hnx.cell (p:=⟨r,3,none⟩) (by simp; omega),World.cell?_alloc_lt _ _ _ (by exact hrlt)]; exact hr4
  have x0:wr.cell? ⟨w.heap.size,0,none⟩=some (.int .i64 a):=by rw [hnx.cell (p:=⟨w.heap.size,0,none⟩) (by simp)]; simp
  have x1:wr.cell? ⟨w.heap.size,1,none⟩=some (.int .i64 b):=by rw [hnx.cell (p:=⟨w.heap.size,1,none⟩) (by simp)]; simp
  by_cases hlt:k < st.places.length
  ·obtain ⟨bt,rfl,_,hbt,hrg,_⟩:=hel k _ (List.getElem?_eq_getElem hlt)
   have gk:=List.getElem?_eq_getElem hlt
   generalize st.places[k]=t at hrg gk
   have Gk:Hid (st.places[k]?=some t):=gk
   clear gk
   have hrg':wr.rangeAt bt (k*4) (placeC t):=rangeAt_below (World.rangeAt_alloc hrg _) hnx (by omega)
   have y0:wr.cell? ⟨bt,k*4,none⟩=some (.int .i64 t.at_.1):=hrg' 0 _ rfl
   have y1:wr.cell? ⟨bt,k*4+1,none⟩=some (.int .i64 t.at_.2):=hrg' 1 _ rfl
   have y2:wr.cell? ⟨bt,k*4+2,none⟩=some (.int .i64 t.key):=hrg' 2 _ rfl
   have y3:wr.cell? ⟨bt,k*4+3,none⟩=some (.int .i64 t.value):=hrg' 3 _ rfl
   have zk:(k:Int) < (st.places.length:Int):=by omega
   clear hrg hrg' hel
   have kne:=kin_some wr
   have k4:=kin_cell c4
   have kx0:=kin_cell x0
   have kx1:=kin_cell x1
   have ky0:=kin_cell y0
   have ky1:=kin_cell y1
   have ky2:=kin_cell y2
   have ky3:=kin_cell y3
   by_cases he:t.at_=(a,b)
   ·have hs:sameL t.at_.1 t.at_.2 a b=true:=sameL_t he
    have He:Hid (t.at_=(a,b)):=he
    clear he
    go_wp2_with fail
    refine wp_region_kin (by kernel_rfl) (by kernel_rfl) ?_
    repeat (first | go_big_quiet_step ((go_at_call 64; exact Calls.kin (sameLabel_is hs _))) | quiet_step ((go_at_call 64; exact Calls.kin (sameLabel_is hs _))))
    refine wpQuiet_nil ?_
    intro _ hw'
    obtain ⟨xq,hw''⟩:=hw'
    subst hw''
    have hon:Below (w.heap.size+1) (w.alloc (.cells #[.int .i64 a,.int .i64 b] 25)) xq.w:=hnx.trans (xq.h.mono hnz)
    have hend:Below w.heap.size w xq.w:=((Below.refl _ _).alloc (Nat.le_refl _) _).trans (hon.mono (by omega))
    go_wp2
    ·have hkey:t.key=key:=by simpa using ‹(t.key == key)=true›
     go_ret
     refine ⟨?_,hend⟩
     have q:=Hl.out
     rw [drop_at Gk.out,valIx,if_pos ⟨He.out,hkey⟩] at q
     exact ret_i q
    ·have hkey:¬ t.key=key:=by simpa using ‹(t.key == key)=false›
     go_roundw
     case rel =>
      refine ⟨k+1,by omega,by go_num,?_,hon⟩
      have q:=Hl.out
      rw [drop_at Gk.out,valIx,if_neg (fun h=>hkey h.2)] at q
      exact q
     case measure=>simp [intOf]; omega
   ·have hs:sameL t.at_.1 t.at_.2 a b=false:=sameL_f he
    have He:Hid (¬ t.at_=(a,b)):=he
    clear he
    go_wp2_with fail
    refine wp_region_kin (by kernel_rfl) (by kernel_rfl) ?_
    repeat (first | go_big_quiet_step ((go_at_call 64; exact Calls.kin (sameLabel_is hs _))) | quiet_step ((go_at_call 64; exact Calls.kin (sameLabel_is hs _))))
    refine wpQuiet_nil ?_
    intro _ hw'
    obtain ⟨xq,hw''⟩:=hw'
    subst hw''
    have hon:Below (w.heap.size+1) (w.alloc (.cells #[.int .i64 a,.int .i64 b] 25)) xq.w:=hnx.trans (xq.h.mono hnz)
    go_wp2
    go_roundw
    case rel =>
     refine ⟨k+1,by omega,by go_num,?_,hon⟩
     have q:=Hl.out
     rw [drop_at Gk.out,valIx,if_neg (fun h=>He.out h.1)] at q
     exact q
    case measure=>simp [intOf]; omega
  ·have e:k=st.places.length:=by omega
   subst e
   go_wp2
   go_ret
   refine ⟨?_,((Below.refl _ _).alloc (Nat.le_refl _) _).trans (hnx.mono (by omega))⟩
   have q:=Hl.out
   rw [List.drop_length,valIx] at q
   exact ret_i q
theorem committed_any (r:Nat) (st:RS) (own:Own) (a b key:Int) (w:World) (hm:Rep w r st own) :
  Calls Try.prog 84 #[.pointer (some ⟨r,0,none⟩),.agg #[.int .i64 a,.int .i64 b],.int .i64 key] w fun e w'=>e=.returned (.int .i64 (st.comm (a,b) key))∧Below w.heap.size w w':=by
 have hrep:=hm
 obtain ⟨g,vp,vt,vr,ve,m⟩:=hm
 obtain ⟨ao,cap,rfl,hmax,hel⟩:=m.txns.form (len_txnC g)
 have hold:=m.olds
 have hrlt:=m.old r (by rw [m.rootTag]; simp)
 have hr4:w.cell? ⟨r,4,none⟩=some (.slice ao st.txns.length cap):=by rw [root_cell m.root]; rfl
 unfold maxLen at hmax
 clear m
 go_enter Try.func84,Try.ntmps84
 go_wp2_with fail
 go_loopw [7] (fun i wr=>∃ k:Nat,k≤st.txns.length∧i=.int .i64 k∧Hid (commIx (a,b) key (st.txns.drop k)=commIx (a,b) key st.txns)∧Below (w.heap.size+1) (w.alloc (.cells #[.int .i64 a,.int .i64 b] 25)) wr) (fun i _=>st.txns.length - (intOf i).toNat)
 case atStart=>exact ⟨0,Nat.zero_le _,rfl,rfl,Below.refl _ _⟩
 case round =>
  obtain ⟨k,hk,rfl,Hl,hnx⟩:=hrel
  have hnz:=hnx.size
  simp only [World.size_alloc] at hnz
  have c4:wr.cell? ⟨r,4,none⟩=some (.slice ao st.txns.length cap):=by rw [hnx.cell (p:=⟨r,4,none⟩) (by simp; omega),World.cell?_alloc_lt _ _ _ (by exact hrlt)]; exact hr4
  have x0:wr.cell? ⟨w.heap.size,0,none⟩=some (.int .i64 a):=by rw [hnx.cell (p:=⟨w.heap.size,0,none⟩) (by simp)]; simp
  have x1:wr.cell? ⟨w.heap.size,1,none⟩=some (.int .i64 b):=by rw [hnx.cell (p:=⟨w.heap.size,1,none⟩) (by simp)]; simp
  by_cases hlt:k < st.txns.length
  ·obtain ⟨bt,rfl,_,hbt,hrg,_⟩:=hel k _ (List.getElem?_eq_getElem hlt)
   have gk:=List.getElem?_eq_getElem hlt
   have hro:=hold _ (List.getElem_mem hlt)
   generalize st.txns[k]=t at hrg gk hro
   have Gk:Hid (st.txns[k]?=some t):=gk
   clear gk
   have hrg':wr.rangeAt bt (k*19) (txnC g t):=rangeAt_below (World.rangeAt_alloc hrg _) hnx (by omega)
   obtain ⟨ao2,cap2,hg1,hmax2,hel2⟩:=hro.form len_itemC
   have y0:wr.cell? ⟨bt,k*19,none⟩=some (.int .i64 t.who.1):=hrg' 0 _ rfl
   have y1:wr.cell? ⟨bt,k*19+1,none⟩=some (.int .i64 t.who.2.1):=hrg' 1 _ rfl
   have y4:wr.cell? ⟨bt,k*19+4,none⟩=some (.slice ao2 t.olds.length cap2):=by rw [← hg1]; exact hrg' 4 _ rfl
   have zk:(k:Int) < (st.txns.length:Int):=by omega
   unfold maxLen at hmax2
   clear hrg hrg' hel hg1 hold hro
   have kne:=kin_some wr
   have k4:=kin_cell c4
   have kx0:=kin_cell x0
   have kx1:=kin_cell x1
   have ky0:=kin_cell y0
   have ky1:=kin_cell y1
   have ky4:=kin_cell y4
   by_cases he:t.who.lab=(a,b)
   ·have hs:sameL t.who.1 t.who.2.1 a b=true:=sameL_t he
    have He:Hid (t.who.lab=(a,b)):=he
    clear he
    go_wp2_with fail
    refine wp_region_kin (by kernel_rfl) (by kernel_rfl) ?_
    repeat (first | go_big_quiet_step ((go_at_call 64; exact Calls.kin (sameLabel_is hs _))) | quiet_step ((go_at_call 64; exact Calls.kin (sameLabel_is hs _))))
    refine wpQuiet_nil ?_
    intro _ hw'
    obtain ⟨xq,hw''⟩:=hw'
    subst hw''
    have hon:Below (w.heap.size+1) (w.alloc (.cells #[.int .i64 a,.int .i64 b] 25)) xq.w:=hnx.trans (xq.h.mono hnz)
    have hend:Below w.heap.size w xq.w:=((Below.refl _ _).alloc (Nat.le_refl _) _).trans (hon.mono (by omega))
    go_wp2
    go_loop [8] (fun i=>∃ j:Nat,j≤t.olds.length∧i=.int .i64 j∧Hid (oldIx key (t.olds.drop j)=oldIx key t.olds)) (fun i=>t.olds.length - (intOf i).toNat)
    case atStart=>exact ⟨0,Nat.zero_le _,rfl,rfl⟩
    case round =>
     obtain ⟨j,hj,rfl,Hj⟩:=hrel
     by_cases hlt2:j < t.olds.length
     ·obtain ⟨b2,rfl,_,hb2,hrg2,_⟩:=hel2 j _ (List.getElem?_eq_getElem hlt2)
      have gj:=List.getElem?_eq_getElem hlt2
      generalize t.olds[j]=o at hrg2 gj
      have Gj:Hid (t.olds[j]?=some o):=gj
      clear gj hel2
      have hrg3:xq.w.rangeAt b2 (j*2) (itemV o):=rangeAt_below hrg2 hend (by omega)
      have z0:xq.w.cell? ⟨b2,j*2,none⟩=some (.int .i64 o.1):=hrg3 0 _ rfl
      have z1:xq.w.cell? ⟨b2,j*2+1,none⟩=some (.int .i64 o.2):=hrg3 1 _ rfl
      have zj:(j:Int) < (t.olds.length:Int):=by omega
      clear hrg2 hrg3
      go_wp2
      ·have hkey:o.1=key:=by simpa using ‹(o.1 == key)=true›
       go_ret
       refine ⟨?_,hend⟩
       have q:=Hj.out
       rw [drop_at Gj.out,oldIx,if_pos hkey] at q
       have q2:=Hl.out
       rw [drop_at Gk.out,commIx_some He.out q.symm] at q2
       refine ret_i ?_
       unfold RS.comm
       rw [← q2]; rfl
      ·have hkey:¬ o.1=key:=by simpa using ‹(o.1 == key)=false›
       go_round
       case rel =>
        refine ⟨j+1,by omega,by go_num,?_⟩
        have q:=Hj.out
        rw [drop_at Gj.out,oldIx,if_neg hkey] at q
        exact q
       case measure=>simp [intOf]; omega
     ·have e:j=t.olds.length:=by omega
      subst e
      go_wp2
      go_roundw
      case rel =>
       refine ⟨k+1,by omega,by go_num,?_,hon⟩
       have q:=Hj.out
       rw [List.drop_length,oldIx] at q
       have q2:=Hl.out
       rw [drop_at Gk.out,commIx_none q.symm] at q2
       exact q2
      case measure=>simp [intOf]; omega
   ·have hs:sameL t.who.1 t.who.2.1 a b=false:=sameL_f he
    have He:Hid (¬ t.who.lab=(a,b)):=he
    clear he
    go_wp2_with fail
    refine wp_region_kin (by kernel_rfl) (by kernel_rfl) ?_
    repeat (first | go_big_quiet_step ((go_at_call 64; exact Calls.kin (sameLabel_is hs _))) | quiet_step ((go_at_call 64; exact Calls.kin (sameLabel_is hs _))))
    refine wpQuiet_nil ?_
    intro _ hw'
    obtain ⟨xq,hw''⟩:=hw'
    subst hw''
    have hon:Below (w.heap.size+1) (w.alloc (.cells #[.int .i64 a,.int .i64 b] 25)) xq.w:=hnx.trans (xq.h.mono hnz)
    go_wp2
    go_roundw
    case rel =>
     refine ⟨k+1,by omega,by go_num,?_,hon⟩
     have q:=Hl.out
     rw [drop_at Gk.out,commIx_other He.out] at q
     exact q
    case measure=>simp [intOf]; omega
  ·have e:k=st.txns.length:=by omega
   subst e
   have hend:Below w.heap.size w wr:=((Below.refl _ _).alloc (Nat.le_refl _) _).trans (hnx.mono (by omega))
   have hrep':=hrep.below hend
   go_wp2_with fail
   refine (value_any r st own a b key _ hrep').mono ?_
   rintro e w1 ⟨rfl,hb1⟩
   go_wp2
   go_ret
   refine ⟨?_,hend.trans (hb1.mono hend.size)⟩
   have q:=Hl.out
   rw [List.drop_length,commIx] at q
   refine ret_i ?_
   unfold RS.comm
   rw [← q]; rfl
end Go.Proofs.Ytpbcplfpjcacfaa
namespace Go.Proofs.Ytpbcplfpjcacfaa
open Go.RowKit
set_option maxRecDepth 100000
set_option maxHeartbeats 8000000
theorem lookTo_len (st:RS) (a:Lab) (n:Nat):(st.lookTo a n).length≤n:=by
 have:=List.length_filterMap_le (lookPick st a) (List.range n)
 simpa [RS.lookTo] using this
theorem lookTo_hit (st:RS) (a:Lab) (n:Nat) (h:0≤st.comm a n):st.lookTo a (n+1)=st.lookTo a n++[((n:Int),st.comm a n)]:=by
 simp [RS.lookTo,List.range_succ,List.filterMap_append,lookPick,h]
theorem lookTo_miss (st:RS) (a:Lab) (n:Nat) (h:¬ 0≤st.comm a n):st.lookTo a (n+1)=st.lookTo a n:=by
 simp only [RS.lookTo,List.range_succ,List.filterMap_append,List.filterMap_cons,lookPick,if_neg h,List.filterMap_nil,List.append_nil]
theorem refLook_any (r:Nat) (st:RS) (own:Own) (a b:Int) (w:World) (hm:Rep w r st own) :
  Calls Try.prog 65 #[.pointer (some ⟨r,0,none⟩),.agg #[.int .i64 a,.int .i64 b]] w fun e w' =>
   ∃ v,e=.returned v∧w'.ownsRow w.heap.size 94 2 v (st.lookTo (a,b) 16).length (itemsV (st.lookTo (a,b) 16))∧Below w.heap.size w w':=by
 obtain ⟨i0,hi0,hz0,hs0,hb0⟩:=info_all info94
 go_enter Try.func65,Try.ntmps65
 go_wp2_with fail
 go_loopw [5,6] (fun v i wr=>∃ k:Nat,k≤16∧i=.int .i64 k∧wr.ownsRow (w.heap.size+1) 94 2 v (st.lookTo (a,b) k).length (itemsV (st.lookTo (a,b) k))∧Below (w.heap.size+1) (w.alloc (.cells #[.int .i64 a,.int .i64 b] 25)) wr) (fun _ i _=>16 - (intOf i).toNat)
 case atStart=>exact ⟨0,Nat.zero_le _,rfl,World.ownsRow_nil _ _ _ _,Below.refl _ _⟩
 case round =>
  obtain ⟨k,hk,rfl,hown,hnx⟩:=hrel
  have hnz:=hnx.size
  simp only [World.size_alloc] at hnz
  have hend:Below w.heap.size w wr:=((Below.refl _ _).alloc (Nat.le_refl _) _).trans (hnx.mono (by omega))
  have hrep':=hm.below hend
  have x0:wr.cell? ⟨w.heap.size,0,none⟩=some (.int .i64 a):=by rw [hnx.cell (p:=⟨w.heap.size,0,none⟩) (by simp)]; simp
  have x1:wr.cell? ⟨w.heap.size,1,none⟩=some (.int .i64 b):=by rw [hnx.cell (p:=⟨w.heap.size,1,none⟩) (by simp)]; simp
  by_cases hlt:k < 16
  ·go_wp2_with fail
   refine (committed_any r st own a b k _ hrep').mono ?_
   rintro e w1 ⟨rfl,hb1⟩
   have hown1:w1.ownsRow (w.heap.size+1) 94 2 u5 (st.lookTo (a,b) k).length (itemsV (st.lookTo (a,b) k)) :=
    hown.kept (row:=none) ⟨hb1.os,hb1.tape,hb1.output,hb1.size,fun k hk _=>hb1.block k hk⟩ (by cases hv:u5.ownBlock<;>simp)
   have hn1:Below (w.heap.size+1) (w.alloc (.cells #[.int .i64 a,.int .i64 b] 25)) w1:=hnx.trans (hb1.mono hnz)
   have hz1:w.heap.size+1≤w1.heap.size:=by have:=hb1.size; omega
   by_cases hit:0≤st.comm (a,b) k
   ·have Hs:Hid (st.lookTo (a,b) (k+1)=st.lookTo (a,b) k++[((k:Int),st.comm (a,b) k)]):=lookTo_hit st (a,b) k hit
    go_wp2_with (at_builtin; refine wpList_append_own _ rfl _ _ 44 rfl (w.heap.size+1) 94 i0 (.agg #[.int .i64 0,.int .i64 0]) 2 16 Try.underlying44 hi0 hz0 hs0 hb0 rfl (by decide) _ _ _ rfl (hown1.alloc _) ⟨w1.heap.size,0,none⟩ 1 1 [.int .i64 k,.int .i64 (st.comm (a,b) k)] rfl rfl ?c1 ?c2 ?c3 ?c4 ?c5 ?_)
    case c1=>exact two_new w1 _ _ 94 _ rfl
    case c2=>intro u hu; simp at hu; rcases hu with rfl | rfl<;>rfl
    case c3=>have:=lookTo_len st (a,b) k; unfold maxLen; omega
    case c4=>have:=lookTo_len st (a,b) k; omega
    case c5=>simp; omega
    intro v' w2 hown' hgrow _
    have hb2:Below (w.heap.size+1) (w.alloc (.cells #[.int .i64 a,.int .i64 b] 25)) w2:=(hn1.alloc (by omega) _).grown hgrow (by simp; omega) (fun k hk=>(hown1.lt k hk).1)
    rw [show (st.lookTo (a,b) k).length+1=(st.lookTo (a,b) (k+1)).length by rw [Hs.out]; simp,
     show itemsV (st.lookTo (a,b) k)++[.int .i64 k,.int .i64 (st.comm (a,b) k)]=itemsV (st.lookTo (a,b) (k+1)) by rw [Hs.out,itemsV_snoc]; rfl] at hown'
    clear hgrow hown hown1
    go_wp2
    go_roundw
    case rel=>exact ⟨k+1,by omega,by go_num,hown',hb2⟩
    case measure=>simp [intOf]; omega
   ·have Hs:Hid (st.lookTo (a,b) (k+1)=st.lookTo (a,b) k):=lookTo_miss st (a,b) k hit
    go_wp2
    go_roundw
    case rel=>exact ⟨k+1,by omega,by go_num,by rw [Hs.out]; exact hown1,hn1⟩
    case measure=>simp [intOf]; omega
  ·have e:k=16:=by omega
   subst e
   go_wp2
   go_ret
   refine ⟨_,rfl,?_,hend⟩
   obtain ⟨hl,ho⟩:=hown
   refine ⟨hl,?_⟩
   rcases ho with h | ⟨b,c,d,e1,e2,e3⟩
   ·exact .inl h
   ·exact .inr ⟨b,c,d,e1,by omega,e3⟩
def recV (r:Rc):Value:=.agg #[.int .i64 r.who.1,.int .i64 r.who.2.1,.int .i64 r.who.2.2,.int .i64 r.at_.1,.int .i64 r.at_.2,.int .i64 r.lo,.int .i64 r.hi,.bool r.write,.bool r.waits,.int .i64 r.came]
theorem below2 {w w1:World} {o1 o2:Obj} (hb:Below ((w.alloc o1).alloc o2).heap.size ((w.alloc o1).alloc o2) w1):Below w.heap.size w w1 :=
 (((Below.refl _ _).alloc (Nat.le_refl _) _).alloc (by simp) _).trans (hb.mono (by simp; omega))
theorem meet_any (a b:Rc) (w:World) :
  Calls Try.prog 45 #[recV a,recV b] w fun e w'=>e=.returned (.bool (meetB a b))∧Below w.heap.size w w':=by
 unfold recV
 cases hs:sameL a.at_.1 a.at_.2 b.at_.1 b.at_.2
 ·go_enter Try.func45,Try.ntmps45
  go_wp2_with fail
  refine (sameLabel_is hs _).mono ?_
  rintro e w1 ⟨rfl,hb⟩
  go_wp2
  go_ret
  exact ⟨ret_bool (by simp [meetB,hs]),below2 hb⟩
 ·go_enter Try.func45,Try.ntmps45
  go_wp2_with fail
  refine (sameLabel_is hs _).mono ?_
  rintro e w1 ⟨rfl,hb⟩
  obtain ⟨hc,hf⟩:=bcell hb
  have hB:=below2 hb
  clear hb
  go_wp2
  all_goals go_ret
  all_goals refine ⟨ret_bool ?_,hB⟩
  all_goals simp [meetB, *]
  all_goals (intros; omega)
theorem cover_any (a b:Rc) (w:World) :
  Calls Try.prog 114 #[recV a,recV b] w fun e w'=>e=.returned (.bool (coverB a b))∧Below w.heap.size w w':=by
 unfold recV
 cases hw:a.waits
 ·cases hs:sameL a.at_.1 a.at_.2 b.at_.1 b.at_.2
  ·go_enter Try.func114,Try.ntmps114
   go_wp2_with fail
   refine (sameLabel_is hs _).mono ?_
   rintro e w1 ⟨rfl,hb⟩
   go_wp2
   go_ret
   exact ⟨ret_bool (by simp [coverB,hs]),below2 hb⟩
  ·go_enter Try.func114,Try.ntmps114
   go_wp2_with fail
   refine (sameLabel_is hs _).mono ?_
   rintro e w1 ⟨rfl,hb⟩
   obtain ⟨hc,hf⟩:=bcell hb
   have hB:=below2 hb
   clear hb
   go_wp2
   all_goals go_ret
   all_goals refine ⟨ret_bool ?_,hB⟩
   all_goals simp [coverB, *]
   all_goals (intros; omega)
 ·go_enter Try.func114,Try.ntmps114
  go_wp2
  go_ret
  exact ⟨ret_bool (by simp [coverB,hw]),below2r⟩
theorem meet_is {a b:Rc} {v:Bool} (h:meetB a b=v) (w:World):Calls Try.prog 45 #[recV a,recV b] w fun e w'=>e=.returned (.bool v)∧Below w.heap.size w w':=by
 subst h; exact meet_any a b w
theorem cover_is {a b:Rc} {v:Bool} (h:coverB a b=v) (w:World):Calls Try.prog 114 #[recV a,recV b] w fun e w'=>e=.returned (.bool v)∧Below w.heap.size w w':=by
 subst h; exact cover_any a b w
theorem hinders_any (a b:Rc) (w:World) :
  Calls Try.prog 126 #[recV a,recV b] w fun e w'=>e=.returned (.bool (hindB a b))∧Below w.heap.size w w':=by
 unfold recV
 cases h1:sameW a.who.1 a.who.2.1 a.who.2.2 b.who.1 b.who.2.1 b.who.2.2
 ·cases h2:sameL a.who.1 a.who.2.1 b.at_.1 b.at_.2
  ·go_enter Try.func126,Try.ntmps126
   go_wp2_with fail
   refine (sameWho_is h1 _).mono ?_
   rintro e w1 ⟨rfl,hb⟩
   obtain ⟨hc,hf⟩:=bcell hb
   have hB:=below2 hb
   clear hb
   go_wp2_with fail
   refine (sameLabel_is h2 _).mono ?_
   rintro e w2 ⟨rfl,hb2⟩
   have hB2:=hB.trans (hb2.mono hB.size)
   go_wp2
   go_ret
   exact ⟨ret_bool (by simp [hindB,h1,h2]),hB2⟩
  ·cases h3:meetB a b
   ·go_enter Try.func126,Try.ntmps126
    go_wp2_with fail
    refine (sameWho_is h1 _).mono ?_
    rintro e w1 ⟨rfl,hb⟩
    obtain ⟨hc,hf⟩:=bcell hb
    have hB:=below2 hb
    have hz:=hb.size
    clear hb
    go_wp2_with fail
    refine (sameLabel_is h2 _).mono ?_
    rintro e w2 ⟨rfl,hb2⟩
    have hB2:=hB.trans (hb2.mono hB.size)
    obtain ⟨hc2,_⟩:=bcell hb2
    have e1:w.heap.size < w1.heap.size:=by simp at hz; omega
    have e2:w.heap.size+1 < w1.heap.size:=by simp at hz; omega
    clear hb2 hf
    go_wp2_with fail
    refine (meet_is h3 _).mono ?_
    rintro e w3 ⟨rfl,hb3⟩
    have hB3:=hB2.trans (hb3.mono hB2.size)
    go_wp2
    go_ret
    exact ⟨ret_bool (by simp [hindB,h1,h2,h3]),hB3⟩
   ·go_enter Try.func126,Try.ntmps126
    go_wp2_with fail
    refine (sameWho_is h1 _).mono ?_
    rintro e w1 ⟨rfl,hb⟩
    obtain ⟨hc,hf⟩:=bcell hb
    have hB:=below2 hb
    have hz:=hb.size
    clear hb
    go_wp2_with fail
    refine (sameLabel_is h2 _).mono ?_
    rintro e w2 ⟨rfl,hb2⟩
    have hB2:=hB.trans (hb2.mono hB.size)
    obtain ⟨hc2,_⟩:=bcell hb2
    have hz2:=hb2.size
    have e1:w.heap.size < w1.heap.size:=by simp at hz; omega
    have e2:w.heap.size+1 < w1.heap.size:=by simp at hz; omega
    clear hb2 hf
    go_wp2_with fail
    refine (meet_is (a:=a) (b:=b) h3 _).mono ?_
    rintro e w3 ⟨rfl,hb3⟩
    have hB3:=hB2.trans (hb3.mono hB2.size)
    obtain ⟨hc3,_⟩:=bcell hb3
    have hz3:=hb3.size
    have e3:w.heap.size < w2.heap.size:=by omega
    have e4:w.heap.size+1 < w2.heap.size:=by omega
    clear hb3
    cases h4:a.waits
    ·go_wp2
     go_ret
     exact ⟨ret_bool (by simp [hindB,h1,h2,h3,h4]),hB3⟩
    ·go_wp2_with fail
     cases h5:sameL b.who.1 b.who.2.1 b.at_.1 b.at_.2
     all_goals
      refine (sameLabel_is h5 _).mono ?_
      rintro e w4 ⟨rfl,hb4⟩
      have hB4:=hB3.trans (hb4.mono hB3.size)
      obtain ⟨hc4,_⟩:=bcell hb4
      have e5:w.heap.size < w3.heap.size:=by omega
      have e6:w.heap.size+1 < w3.heap.size:=by omega
      clear hb4
      go_wp2
      go_ret
      exact ⟨ret_bool (by simp [hindB,h1,h2,h3,h4,h5]),hB4⟩
 ·go_enter Try.func126,Try.ntmps126
  go_wp2_with fail
  refine (sameWho_is h1 _).mono ?_
  rintro e w1 ⟨rfl,hb⟩
  have hB:=below2 hb
  go_wp2
  go_ret
  exact ⟨ret_bool (by simp [hindB,h1]),hB⟩
end Go.Proofs.Ytpbcplfpjcacfaa
