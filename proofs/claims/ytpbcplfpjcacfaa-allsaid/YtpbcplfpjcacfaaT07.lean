import Derived.Test.YtpbcplfpjcacfaaT06
namespace Go.Proofs.Ytpbcplfpjcacfaa
open Go.RowKit
set_option linter.unusedSimpArgs false
set_option maxRecDepth 100000
set_option maxHeartbeats 8000000
theorem readTo_len (st:RS) (ow:Bool) (a:Lab) (lo j:Nat):(st.readTo ow a lo j).length≤j:=by
 have:=List.length_filterMap_le (seePick st ow a lo) (List.range j)
 simpa [RS.readTo] using this
theorem readTo_hit {st:RS} {ow:Bool} {a:Lab} {lo j:Nat} (h:0≤st.sees ow a ((lo+j:Nat):Int)):st.readTo ow a lo (j+1)=st.readTo ow a lo j++[(((lo+j:Nat):Int),st.sees ow a ((lo+j:Nat):Int))]:=by
 simp only [RS.readTo,List.range_succ,List.filterMap_append,List.filterMap_cons,seePick,if_pos h,List.filterMap_nil]
theorem readTo_miss {st:RS} {ow:Bool} {a:Lab} {lo j:Nat} (h:¬ 0≤st.sees ow a ((lo+j:Nat):Int)):st.readTo ow a lo (j+1)=st.readTo ow a lo j:=by
 simp only [RS.readTo,List.range_succ,List.filterMap_append,List.filterMap_cons,seePick,if_neg h,List.filterMap_nil,List.append_nil]
theorem works_get (r:Nat) (st:RS) (own:Own) (xw:Wh) (xa:Lab) (lo:Nat) (xt:Int) (xv:Int) (ow:Bool) (w:World) (hm:Rep w r st own) (h15:lo≤15) (how:sameL xw.1 xw.2.1 xa.1 xa.2=ow) :
  Calls Try.prog 112 #[.pointer (some ⟨r,0,none⟩),stepV ⟨xw,2,xa,lo,xt,xv⟩] w fun e w' =>
   ∃ v,e=.returned (ansV 0 0 v)∧w'.ownsRow w.heap.size 94 2 v (st.readTo ow xa lo (lo+1 - lo)).length (itemsV (st.readTo ow xa lo (lo+1 - lo)))∧Below w.heap.size w w':=by
 obtain ⟨i0,hi0,hz0,hs0,hb0⟩:=info_all info94
 have HO:Hid (sameL xw.1 xw.2.1 xa.1 xa.2=ow):=how
 clear how
 generalize hN:lo+1 - lo=N
 have HN:Hid (lo+1 - lo=N):=hN
 clear hN
 unfold stepV ansV
 go_enter Try.func112,Try.ntmps112
 go_wp2_with fail
 have hA:Below w.heap.size w ((w.alloc (.cells #[.int .i64 xw.1,.int .i64 xw.2.1,.int .i64 xw.2.2,.int .i64 2,.int .i64 xa.1,.int .i64 xa.2,.int .i64 lo,.int .i64 xt,.int .i64 xv] 30)).alloc (.cells #[.int .i64 0,.int .i64 0,.slice none 0 0] 66)):=below2r
 refine (live_any r st own xw.1 xw.2.1 xw.2.2 _ (hm.below hA)).mono ?_
 rintro e w1 ⟨rfl,hb1⟩
 generalize st.live (xw.1,xw.2.1,xw.2.2)=lv
 have hB1:Below w.heap.size w w1:=hA.trans (hb1.mono hA.size)
 have hz1:w.heap.size+2≤w1.heap.size:=by have:=hb1.size; simp at this; omega
 have hX:w1.heap[w.heap.size]?=some (.cells #[.int .i64 xw.1,.int .i64 xw.2.1,.int .i64 xw.2.2,.int .i64 2,.int .i64 xa.1,.int .i64 xa.2,.int .i64 lo,.int .i64 xt,.int .i64 xv] 30 (0,0)):=by
  rw [hb1.block _ (by simp; omega),Below.heap_alloc _ _ _ (by simp)]; exact heap_alloc_new w _
 have hR:w1.heap[w.heap.size+1]?=some (.cells #[.int .i64 0,.int .i64 0,.slice none 0 0] 66 (0,0)):=by
  rw [hb1.block _ (by simp)]
  have:=heap_alloc_new (w.alloc (.cells #[.int .i64 xw.1,.int .i64 xw.2.1,.int .i64 xw.2.2,.int .i64 2,.int .i64 xa.1,.int .i64 xa.2,.int .i64 lo,.int .i64 xt,.int .i64 xv] 30)) (.cells #[.int .i64 0,.int .i64 0,.slice none 0 0] 66 (0,0))
  simpa using this
 have HR:Hid (w1.heap[w.heap.size+1]?=some (.cells #[.int .i64 0,.int .i64 0,.slice none 0 0] 66 (0,0))):=hR
 have HX:Hid (w1.heap[w.heap.size]?=some (.cells #[.int .i64 xw.1,.int .i64 xw.2.1,.int .i64 xw.2.2,.int .i64 2,.int .i64 xa.1,.int .i64 xa.2,.int .i64 lo,.int .i64 xt,.int .i64 xv] 30 (0,0))):=hX
 obtain ⟨c0,c1,c2,c3,c4,c5,c6,c7,c8⟩:=step_cells (x:=⟨xw,2,xa,lo,xt,xv⟩) hX
 simp only at c0 c1 c2 c3 c4 c5 c6 c7 c8
 clear hb1 hA hX hR
 go_wp2_with fail
 refine (sameLabel_is HO.out _).mono ?_
 rintro e w2 ⟨rfl,hb2⟩
 have hB2:Below w.heap.size w w2:=hB1.trans (hb2.mono (by omega))
 have hz2:w.heap.size+2≤w2.heap.size:=by have:=hb2.size; omega
 have e4:=cell_later hb2 c4
 have e5:=cell_later hb2 c5
 have e6:=cell_later hb2 c6
 have HR2:Hid (w2.heap[w.heap.size+1]?=some (.cells #[.int .i64 0,.int .i64 0,.slice none 0 0] 66 (0,0))):=(hb2.block _ (by omega)).trans HR.out
 clear c0 c1 c2 c3 c4 c5 c6 c7 c8 HX HR hb2
 go_wp2_with fail
 go_loopw [12,13] (fun v i wr=>∃ j:Nat,j≤N∧i=.int .i64 ((lo+j:Nat):Int)∧wr.ownsRow (w.heap.size+2) 94 2 v (st.readTo ow xa lo j).length (itemsV (st.readTo ow xa lo j))∧Below (w.heap.size+2) w2 wr) (fun _ i _=>lo+1 - (intOf i).toNat)
 case atStart=>exact ⟨0,Nat.zero_le _,rfl,World.ownsRow_nil _ _ _ _,Below.refl _ _⟩
 case round =>
  obtain ⟨j,hj,rfl,hown,hnx⟩:=hrel
  have hnz:=hnx.size
  have hend:Below w.heap.size w wr:=hB2.trans (hnx.mono (by omega))
  have hmr:=hm.below hend
  have k4:wr.cell? ⟨w.heap.size,4,none⟩=some (.int .i64 xa.1):=by rw [hnx.cell (p:=⟨w.heap.size,4,none⟩) (by show w.heap.size < w.heap.size+2; omega)]; exact e4
  have k5:wr.cell? ⟨w.heap.size,5,none⟩=some (.int .i64 xa.2):=by rw [hnx.cell (p:=⟨w.heap.size,5,none⟩) (by show w.heap.size < w.heap.size+2; omega)]; exact e5
  by_cases hlt:lo+j≤lo
  ·have tl:((lo+j:Nat):Int)≤(lo:Int):=by omega
   have tl2:((lo+j:Nat):Int)≤15:=by omega
   generalize hq:lo+j=q at *
   have Hq:Hid (lo+j=q):=hq
   clear hq
   cases ow
   ·go_wp2_with fail
    refine (committed_any r st own xa.1 xa.2 q _ hmr).mono ?_
    rintro e w3 ⟨rfl,hb3⟩
    have Hsee:Hid (st.sees false xa (q:Int)=st.comm (xa.1,xa.2) q):=rfl
    generalize st.comm (xa.1,xa.2) (q:Int)=sv at *
    have hown3:=ownsRow_below hown hb3
    have hon:Below (w.heap.size+2) w2 w3:=hnx.trans (hb3.mono (by omega))
    have hz3:w.heap.size+2≤w3.heap.size:=by have:=hb3.size; omega
    clear hown hb3
    by_cases hit:0≤sv
    ·have Hs:Hid (st.readTo false xa lo (j+1)=st.readTo false xa lo j++[((q:Int),sv)]):=by
      have h1:=readTo_hit (st:=st) (ow:=false) (a:=xa) (lo:=lo) (j:=j) (by rw [Hq.out,Hsee.out]; exact hit)
      rw [Hq.out,Hsee.out] at h1; exact h1
     go_wp2_with (at_builtin; refine wpList_append_own _ rfl _ _ 44 rfl (w.heap.size+2) 94 i0 (.agg #[.int .i64 0,.int .i64 0]) 2 16 Try.underlying44 hi0 hz0 hs0 hb0 rfl (by decide) _ _ _ rfl (hown3.alloc _) ⟨w3.heap.size,0,none⟩ 1 1 [.int .i64 q,.int .i64 sv] rfl rfl ?c1 ?c2 ?c3 ?c4 ?c5 ?_)
     case c1=>exact two_new w3 _ _ 94 _ rfl
     case c2=>intro u hu; simp at hu; rcases hu with rfl | rfl<;>rfl
     case c3=>have:=readTo_len st false xa lo j; have:=HN.out; unfold maxLen; omega
     case c4=>have:=readTo_len st false xa lo j; have:=HN.out; omega
     case c5=>simp; omega
     intro v' w4 hown' hgrow _
     have hb4:Below (w.heap.size+2) w2 w4:=(hon.alloc (by omega) _).grown hgrow (by simp; omega) (fun k hk=>(hown3.lt k hk).1)
     rw [show (st.readTo false xa lo j).length+1=(st.readTo false xa lo (j+1)).length by rw [Hs.out]; simp,
      show itemsV (st.readTo false xa lo j)++[.int .i64 q,.int .i64 sv]=itemsV (st.readTo false xa lo (j+1)) by rw [Hs.out,itemsV_snoc]; rfl] at hown'
     clear hgrow hown3
     go_wp2
     go_roundw
     case rel=>exact ⟨j+1,by have:=Hq.out; have:=HN.out; omega,by have h:=Hq.out; rw [show lo+(j+1)=q+1 by omega]; go_num,hown',hb4⟩
     case measure=>have:=Hq.out; simp [intOf]; omega
    ·have Hs:Hid (st.readTo false xa lo (j+1)=st.readTo false xa lo j):=readTo_miss (by rw [Hq.out,Hsee.out]; exact hit)
     go_wp2
     go_roundw
     case rel=>exact ⟨j+1,by have:=Hq.out; have:=HN.out; omega,by have h:=Hq.out; rw [show lo+(j+1)=q+1 by omega]; go_num,by rw [Hs.out]; exact hown3,hon⟩
     case measure=>have:=Hq.out; simp [intOf]; omega
   ·go_wp2_with fail
    refine (committed_any r st own xa.1 xa.2 q _ hmr).mono ?_
    rintro e w3a ⟨rfl,hb3a⟩
    generalize st.comm (xa.1,xa.2) (q:Int)=cv
    have k4a:=cell_later hb3a k4
    have k5a:=cell_later hb3a k5
    have hend3:Below w.heap.size w w3a:=hend.trans (hb3a.mono hend.size)
    have hown3a:=ownsRow_below hown hb3a
    have hon3:Below (w.heap.size+2) w2 w3a:=hnx.trans (hb3a.mono (by omega))
    have hz3a:w.heap.size+2≤w3a.heap.size:=by have:=hb3a.size; omega
    clear hown hb3a k4 k5
    go_wp2_with fail
    refine (value_any r st own xa.1 xa.2 q _ (hm.below hend3)).mono ?_
    rintro e w3 ⟨rfl,hb3⟩
    have Hsee:Hid (st.sees true xa (q:Int)=st.val (xa.1,xa.2) q):=rfl
    generalize st.val (xa.1,xa.2) (q:Int)=sv at *
    have hown3:=ownsRow_below hown3a hb3
    have hon:Below (w.heap.size+2) w2 w3:=hon3.trans (hb3.mono (by omega))
    have hz3:w.heap.size+2≤w3.heap.size:=by have:=hb3.size; omega
    clear hown3a hb3 k4a k5a
    by_cases hit:0≤sv
    ·have Hs:Hid (st.readTo true xa lo (j+1)=st.readTo true xa lo j++[((q:Int),sv)]):=by
      have h1:=readTo_hit (st:=st) (ow:=true) (a:=xa) (lo:=lo) (j:=j) (by rw [Hq.out,Hsee.out]; exact hit)
      rw [Hq.out,Hsee.out] at h1; exact h1
     go_wp2_with (at_builtin; refine wpList_append_own _ rfl _ _ 44 rfl (w.heap.size+2) 94 i0 (.agg #[.int .i64 0,.int .i64 0]) 2 16 Try.underlying44 hi0 hz0 hs0 hb0 rfl (by decide) _ _ _ rfl (hown3.alloc _) ⟨w3.heap.size,0,none⟩ 1 1 [.int .i64 q,.int .i64 sv] rfl rfl ?c1 ?c2 ?c3 ?c4 ?c5 ?_)
     case c1=>exact two_new w3 _ _ 94 _ rfl
     case c2=>intro u hu; simp at hu; rcases hu with rfl | rfl<;>rfl
     case c3=>have:=readTo_len st true xa lo j; have:=HN.out; unfold maxLen; omega
     case c4=>have:=readTo_len st true xa lo j; have:=HN.out; omega
     case c5=>simp; omega
     intro v' w4 hown' hgrow _
     have hb4:Below (w.heap.size+2) w2 w4:=(hon.alloc (by omega) _).grown hgrow (by simp; omega) (fun k hk=>(hown3.lt k hk).1)
     rw [show (st.readTo true xa lo j).length+1=(st.readTo true xa lo (j+1)).length by rw [Hs.out]; simp,
      show itemsV (st.readTo true xa lo j)++[.int .i64 q,.int .i64 sv]=itemsV (st.readTo true xa lo (j+1)) by rw [Hs.out,itemsV_snoc]; rfl] at hown'
     clear hgrow hown3
     go_wp2
     go_roundw
     case rel=>exact ⟨j+1,by have:=Hq.out; have:=HN.out; omega,by have h:=Hq.out; rw [show lo+(j+1)=q+1 by omega]; go_num,hown',hb4⟩
     case measure=>have:=Hq.out; simp [intOf]; omega
    ·have Hs:Hid (st.readTo true xa lo (j+1)=st.readTo true xa lo j):=readTo_miss (by rw [Hq.out,Hsee.out]; exact hit)
     go_wp2
     go_roundw
     case rel=>exact ⟨j+1,by have:=Hq.out; have:=HN.out; omega,by have h:=Hq.out; rw [show lo+(j+1)=q+1 by omega]; go_num,by rw [Hs.out]; exact hown3,hon⟩
     case measure=>have:=Hq.out; simp [intOf]; omega
  ·have hj':j=N:=by have:=HN.out; omega
   subst hj'
   have hRr:wr.heap[w.heap.size+1]?=some (.cells #[.int .i64 0,.int .i64 0,.slice none 0 0] 66 (0,0)):=(hnx.block _ (by omega)).trans HR2.out
   have hgt:¬ ((lo+j:Nat):Int)≤(lo:Int):=by have:=HN.out; omega
   generalize lo+j=q at *
   obtain ⟨ua,un,uc,rfl⟩:∃ a n c,u12=.slice a n c:=by
    rcases hown.2 with ⟨h,_⟩ | ⟨b,c,d,h,_⟩
    ·exact ⟨_,_,_,h⟩
    ·exact ⟨_,_,_,h⟩
   obtain ⟨d0,d1,d2,f0,f1,f2⟩:=ans_cells hRr
   have HS:Hid ((((wr.setCell ⟨w.heap.size+1,0,none⟩ (.int .i64 0)).setCell ⟨w.heap.size+1,1,none⟩ (.int .i64 0)).setCell ⟨w.heap.size+1,2,none⟩ (.slice ua un uc)).heap[w.heap.size+1]?=some (.cells #[.int .i64 0,.int .i64 0,(.slice ua un uc)] 66 (0,0))):=ans_stored (.int .i64 0) (.int .i64 0) (.slice ua un uc) hRr
   have hbel:Below w.heap.size w (((wr.setCell ⟨w.heap.size+1,0,none⟩ (.int .i64 0)).setCell ⟨w.heap.size+1,1,none⟩ (.int .i64 0)).setCell ⟨w.heap.size+1,2,none⟩ (.slice ua un uc)) :=
    ((hend.setCell (by simp) _).setCell (by simp) _).setCell (by simp) _
   have hownf:=ownsRow_lower (ownsRow_setCell_below (ownsRow_setCell_below (ownsRow_setCell_below hown (a:=⟨w.heap.size+1,0,none⟩) (by simp) (.int .i64 0)) (a:=⟨w.heap.size+1,1,none⟩) (by simp) (.int .i64 0)) (a:=⟨w.heap.size+1,2,none⟩) (by simp) (.slice ua un uc)) (B':=w.heap.size) (by omega)
   clear hRr hown
   go_wp2
   exact ret_ans Try.results112 rfl HS.out rfl ⟨.slice ua un uc,rfl,hownf,hbel⟩
theorem works_scan (r:Nat) (st:RS) (own:Own) (xw:Wh) (xa:Lab) (lo:Nat) (hi:Nat) (xv:Int) (ow:Bool) (w:World) (hm:Rep w r st own) (hle:lo≤hi) (h15:hi≤15) (how:sameL xw.1 xw.2.1 xa.1 xa.2=ow) :
  Calls Try.prog 112 #[.pointer (some ⟨r,0,none⟩),stepV ⟨xw,3,xa,lo,hi,xv⟩] w fun e w' =>
   ∃ v,e=.returned (ansV 0 0 v)∧w'.ownsRow w.heap.size 94 2 v (st.readTo ow xa lo (hi+1 - lo)).length (itemsV (st.readTo ow xa lo (hi+1 - lo)))∧Below w.heap.size w w':=by
 obtain ⟨i0,hi0,hz0,hs0,hb0⟩:=info_all info94
 have HO:Hid (sameL xw.1 xw.2.1 xa.1 xa.2=ow):=how
 clear how
 generalize hN:hi+1 - lo=N
 have HN:Hid (hi+1 - lo=N):=hN
 clear hN
 unfold stepV ansV
 go_enter Try.func112,Try.ntmps112
 go_wp2_with fail
 have hA:Below w.heap.size w ((w.alloc (.cells #[.int .i64 xw.1,.int .i64 xw.2.1,.int .i64 xw.2.2,.int .i64 3,.int .i64 xa.1,.int .i64 xa.2,.int .i64 lo,.int .i64 hi,.int .i64 xv] 30)).alloc (.cells #[.int .i64 0,.int .i64 0,.slice none 0 0] 66)):=below2r
 refine (live_any r st own xw.1 xw.2.1 xw.2.2 _ (hm.below hA)).mono ?_
 rintro e w1 ⟨rfl,hb1⟩
 generalize st.live (xw.1,xw.2.1,xw.2.2)=lv
 have hB1:Below w.heap.size w w1:=hA.trans (hb1.mono hA.size)
 have hz1:w.heap.size+2≤w1.heap.size:=by have:=hb1.size; simp at this; omega
 have hX:w1.heap[w.heap.size]?=some (.cells #[.int .i64 xw.1,.int .i64 xw.2.1,.int .i64 xw.2.2,.int .i64 3,.int .i64 xa.1,.int .i64 xa.2,.int .i64 lo,.int .i64 hi,.int .i64 xv] 30 (0,0)):=by
  rw [hb1.block _ (by simp; omega),Below.heap_alloc _ _ _ (by simp)]; exact heap_alloc_new w _
 have hR:w1.heap[w.heap.size+1]?=some (.cells #[.int .i64 0,.int .i64 0,.slice none 0 0] 66 (0,0)):=by
  rw [hb1.block _ (by simp)]
  have:=heap_alloc_new (w.alloc (.cells #[.int .i64 xw.1,.int .i64 xw.2.1,.int .i64 xw.2.2,.int .i64 3,.int .i64 xa.1,.int .i64 xa.2,.int .i64 lo,.int .i64 hi,.int .i64 xv] 30)) (.cells #[.int .i64 0,.int .i64 0,.slice none 0 0] 66 (0,0))
  simpa using this
 have HR:Hid (w1.heap[w.heap.size+1]?=some (.cells #[.int .i64 0,.int .i64 0,.slice none 0 0] 66 (0,0))):=hR
 have HX:Hid (w1.heap[w.heap.size]?=some (.cells #[.int .i64 xw.1,.int .i64 xw.2.1,.int .i64 xw.2.2,.int .i64 3,.int .i64 xa.1,.int .i64 xa.2,.int .i64 lo,.int .i64 hi,.int .i64 xv] 30 (0,0))):=hX
 obtain ⟨c0,c1,c2,c3,c4,c5,c6,c7,c8⟩:=step_cells (x:=⟨xw,3,xa,lo,hi,xv⟩) hX
 simp only at c0 c1 c2 c3 c4 c5 c6 c7 c8
 clear hb1 hA hX hR
 go_wp2_with fail
 refine (sameLabel_is HO.out _).mono ?_
 rintro e w2 ⟨rfl,hb2⟩
 have hB2:Below w.heap.size w w2:=hB1.trans (hb2.mono (by omega))
 have hz2:w.heap.size+2≤w2.heap.size:=by have:=hb2.size; omega
 have e4:=cell_later hb2 c4
 have e5:=cell_later hb2 c5
 have e6:=cell_later hb2 c6
 have HR2:Hid (w2.heap[w.heap.size+1]?=some (.cells #[.int .i64 0,.int .i64 0,.slice none 0 0] 66 (0,0))):=(hb2.block _ (by omega)).trans HR.out
 clear c0 c1 c2 c3 c4 c5 c6 c7 c8 HX HR hb2
 go_wp2_with fail
 go_loopw [12,13] (fun v i wr=>∃ j:Nat,j≤N∧i=.int .i64 ((lo+j:Nat):Int)∧wr.ownsRow (w.heap.size+2) 94 2 v (st.readTo ow xa lo j).length (itemsV (st.readTo ow xa lo j))∧Below (w.heap.size+2) w2 wr) (fun _ i _=>hi+1 - (intOf i).toNat)
 case atStart=>exact ⟨0,Nat.zero_le _,rfl,World.ownsRow_nil _ _ _ _,Below.refl _ _⟩
 case round =>
  obtain ⟨j,hj,rfl,hown,hnx⟩:=hrel
  have hnz:=hnx.size
  have hend:Below w.heap.size w wr:=hB2.trans (hnx.mono (by omega))
  have hmr:=hm.below hend
  have k4:wr.cell? ⟨w.heap.size,4,none⟩=some (.int .i64 xa.1):=by rw [hnx.cell (p:=⟨w.heap.size,4,none⟩) (by show w.heap.size < w.heap.size+2; omega)]; exact e4
  have k5:wr.cell? ⟨w.heap.size,5,none⟩=some (.int .i64 xa.2):=by rw [hnx.cell (p:=⟨w.heap.size,5,none⟩) (by show w.heap.size < w.heap.size+2; omega)]; exact e5
  by_cases hlt:lo+j≤hi
  ·have tl:((lo+j:Nat):Int)≤(hi:Int):=by omega
   have tl2:((lo+j:Nat):Int)≤15:=by omega
   generalize hq:lo+j=q at *
   have Hq:Hid (lo+j=q):=hq
   clear hq
   cases ow
   ·go_wp2_with fail
    refine (committed_any r st own xa.1 xa.2 q _ hmr).mono ?_
    rintro e w3 ⟨rfl,hb3⟩
    have Hsee:Hid (st.sees false xa (q:Int)=st.comm (xa.1,xa.2) q):=rfl
    generalize st.comm (xa.1,xa.2) (q:Int)=sv at *
    have hown3:=ownsRow_below hown hb3
    have hon:Below (w.heap.size+2) w2 w3:=hnx.trans (hb3.mono (by omega))
    have hz3:w.heap.size+2≤w3.heap.size:=by have:=hb3.size; omega
    clear hown hb3
    by_cases hit:0≤sv
    ·have Hs:Hid (st.readTo false xa lo (j+1)=st.readTo false xa lo j++[((q:Int),sv)]):=by
      have h1:=readTo_hit (st:=st) (ow:=false) (a:=xa) (lo:=lo) (j:=j) (by rw [Hq.out,Hsee.out]; exact hit)
      rw [Hq.out,Hsee.out] at h1; exact h1
     go_wp2_with (at_builtin; refine wpList_append_own _ rfl _ _ 44 rfl (w.heap.size+2) 94 i0 (.agg #[.int .i64 0,.int .i64 0]) 2 16 Try.underlying44 hi0 hz0 hs0 hb0 rfl (by decide) _ _ _ rfl (hown3.alloc _) ⟨w3.heap.size,0,none⟩ 1 1 [.int .i64 q,.int .i64 sv] rfl rfl ?c1 ?c2 ?c3 ?c4 ?c5 ?_)
     case c1=>exact two_new w3 _ _ 94 _ rfl
     case c2=>intro u hu; simp at hu; rcases hu with rfl | rfl<;>rfl
     case c3=>have:=readTo_len st false xa lo j; have:=HN.out; unfold maxLen; omega
     case c4=>have:=readTo_len st false xa lo j; have:=HN.out; omega
     case c5=>simp; omega
     intro v' w4 hown' hgrow _
     have hb4:Below (w.heap.size+2) w2 w4:=(hon.alloc (by omega) _).grown hgrow (by simp; omega) (fun k hk=>(hown3.lt k hk).1)
     rw [show (st.readTo false xa lo j).length+1=(st.readTo false xa lo (j+1)).length by rw [Hs.out]; simp,
      show itemsV (st.readTo false xa lo j)++[.int .i64 q,.int .i64 sv]=itemsV (st.readTo false xa lo (j+1)) by rw [Hs.out,itemsV_snoc]; rfl] at hown'
     clear hgrow hown3
     go_wp2
     go_roundw
     case rel=>exact ⟨j+1,by have:=Hq.out; have:=HN.out; omega,by have h:=Hq.out; rw [show lo+(j+1)=q+1 by omega]; go_num,hown',hb4⟩
     case measure=>have:=Hq.out; simp [intOf]; omega
    ·have Hs:Hid (st.readTo false xa lo (j+1)=st.readTo false xa lo j):=readTo_miss (by rw [Hq.out,Hsee.out]; exact hit)
     go_wp2
     go_roundw
     case rel=>exact ⟨j+1,by have:=Hq.out; have:=HN.out; omega,by have h:=Hq.out; rw [show lo+(j+1)=q+1 by omega]; go_num,by rw [Hs.out]; exact hown3,hon⟩
     case measure=>have:=Hq.out; simp [intOf]; omega
   ·go_wp2_with fail
    refine (committed_any r st own xa.1 xa.2 q _ hmr).mono ?_
    rintro e w3a ⟨rfl,hb3a⟩
    generalize st.comm (xa.1,xa.2) (q:Int)=cv
    have k4a:=cell_later hb3a k4
    have k5a:=cell_later hb3a k5
    have hend3:Below w.heap.size w w3a:=hend.trans (hb3a.mono hend.size)
    have hown3a:=ownsRow_below hown hb3a
    have hon3:Below (w.heap.size+2) w2 w3a:=hnx.trans (hb3a.mono (by omega))
    have hz3a:w.heap.size+2≤w3a.heap.size:=by have:=hb3a.size; omega
    clear hown hb3a k4 k5
    go_wp2_with fail
    refine (value_any r st own xa.1 xa.2 q _ (hm.below hend3)).mono ?_
    rintro e w3 ⟨rfl,hb3⟩
    have Hsee:Hid (st.sees true xa (q:Int)=st.val (xa.1,xa.2) q):=rfl
    generalize st.val (xa.1,xa.2) (q:Int)=sv at *
    have hown3:=ownsRow_below hown3a hb3
    have hon:Below (w.heap.size+2) w2 w3:=hon3.trans (hb3.mono (by omega))
    have hz3:w.heap.size+2≤w3.heap.size:=by have:=hb3.size; omega
    clear hown3a hb3 k4a k5a
    by_cases hit:0≤sv
    ·have Hs:Hid (st.readTo true xa lo (j+1)=st.readTo true xa lo j++[((q:Int),sv)]):=by
      have h1:=readTo_hit (st:=st) (ow:=true) (a:=xa) (lo:=lo) (j:=j) (by rw [Hq.out,Hsee.out]; exact hit)
      rw [Hq.out,Hsee.out] at h1; exact h1
     go_wp2_with (at_builtin; refine wpList_append_own _ rfl _ _ 44 rfl (w.heap.size+2) 94 i0 (.agg #[.int .i64 0,.int .i64 0]) 2 16 Try.underlying44 hi0 hz0 hs0 hb0 rfl (by decide) _ _ _ rfl (hown3.alloc _) ⟨w3.heap.size,0,none⟩ 1 1 [.int .i64 q,.int .i64 sv] rfl rfl ?c1 ?c2 ?c3 ?c4 ?c5 ?_)
     case c1=>exact two_new w3 _ _ 94 _ rfl
     case c2=>intro u hu; simp at hu; rcases hu with rfl | rfl<;>rfl
     case c3=>have:=readTo_len st true xa lo j; have:=HN.out; unfold maxLen; omega
     case c4=>have:=readTo_len st true xa lo j; have:=HN.out; omega
     case c5=>simp; omega
     intro v' w4 hown' hgrow _
     have hb4:Below (w.heap.size+2) w2 w4:=(hon.alloc (by omega) _).grown hgrow (by simp; omega) (fun k hk=>(hown3.lt k hk).1)
     rw [show (st.readTo true xa lo j).length+1=(st.readTo true xa lo (j+1)).length by rw [Hs.out]; simp,
      show itemsV (st.readTo true xa lo j)++[.int .i64 q,.int .i64 sv]=itemsV (st.readTo true xa lo (j+1)) by rw [Hs.out,itemsV_snoc]; rfl] at hown'
     clear hgrow hown3
     go_wp2
     go_roundw
     case rel=>exact ⟨j+1,by have:=Hq.out; have:=HN.out; omega,by have h:=Hq.out; rw [show lo+(j+1)=q+1 by omega]; go_num,hown',hb4⟩
     case measure=>have:=Hq.out; simp [intOf]; omega
    ·have Hs:Hid (st.readTo true xa lo (j+1)=st.readTo true xa lo j):=readTo_miss (by rw [Hq.out,Hsee.out]; exact hit)
     go_wp2
     go_roundw
     case rel=>exact ⟨j+1,by have:=Hq.out; have:=HN.out; omega,by have h:=Hq.out; rw [show lo+(j+1)=q+1 by omega]; go_num,by rw [Hs.out]; exact hown3,hon⟩
     case measure=>have:=Hq.out; simp [intOf]; omega
  ·have hj':j=N:=by have:=HN.out; omega
   subst hj'
   have hRr:wr.heap[w.heap.size+1]?=some (.cells #[.int .i64 0,.int .i64 0,.slice none 0 0] 66 (0,0)):=(hnx.block _ (by omega)).trans HR2.out
   have hgt:¬ ((lo+j:Nat):Int)≤(hi:Int):=by have:=HN.out; omega
   generalize lo+j=q at *
   obtain ⟨ua,un,uc,rfl⟩:∃ a n c,u12=.slice a n c:=by
    rcases hown.2 with ⟨h,_⟩ | ⟨b,c,d,h,_⟩
    ·exact ⟨_,_,_,h⟩
    ·exact ⟨_,_,_,h⟩
   obtain ⟨d0,d1,d2,f0,f1,f2⟩:=ans_cells hRr
   have HS:Hid ((((wr.setCell ⟨w.heap.size+1,0,none⟩ (.int .i64 0)).setCell ⟨w.heap.size+1,1,none⟩ (.int .i64 0)).setCell ⟨w.heap.size+1,2,none⟩ (.slice ua un uc)).heap[w.heap.size+1]?=some (.cells #[.int .i64 0,.int .i64 0,(.slice ua un uc)] 66 (0,0))):=ans_stored (.int .i64 0) (.int .i64 0) (.slice ua un uc) hRr
   have hbel:Below w.heap.size w (((wr.setCell ⟨w.heap.size+1,0,none⟩ (.int .i64 0)).setCell ⟨w.heap.size+1,1,none⟩ (.int .i64 0)).setCell ⟨w.heap.size+1,2,none⟩ (.slice ua un uc)) :=
    ((hend.setCell (by simp) _).setCell (by simp) _).setCell (by simp) _
   have hownf:=ownsRow_lower (ownsRow_setCell_below (ownsRow_setCell_below (ownsRow_setCell_below hown (a:=⟨w.heap.size+1,0,none⟩) (by simp) (.int .i64 0)) (a:=⟨w.heap.size+1,1,none⟩) (by simp) (.int .i64 0)) (a:=⟨w.heap.size+1,2,none⟩) (by simp) (.slice ua un uc)) (B':=w.heap.size) (by omega)
   clear hRr hown
   go_wp2
   exact ret_ans Try.results112 rfl HS.out rfl ⟨.slice ua un uc,rfl,hownf,hbel⟩
end Go.Proofs.Ytpbcplfpjcacfaa
