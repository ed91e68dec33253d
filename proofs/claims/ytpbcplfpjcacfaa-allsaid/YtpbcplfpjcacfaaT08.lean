import Derived.Test.YtpbcplfpjcacfaaT04
namespace Go.Proofs.Ytpbcplfpjcacfaa
open Go.RowKit
set_option linter.unusedSimpArgs false
set_option maxRecDepth 100000
set_option maxHeartbeats 8000000
theorem cntIx_le (a:Lab) (l:List Tx):cntIx a l≤l.length:=List.length_filter_le _ _
theorem info157:(Try.prog.info? 162).map (fun i=>(i.zero,i.size,i.bytes))=some (some (.agg #[.int .i64 0,.int .i64 0,.int .i64 0,.int .i64 0,.slice none 0 0,.slice none 0 0,.int .i64 0,.int .i64 0,.int .i64 0,.int .i64 0,.int .i64 0,.int .i64 0,.int .i64 0,.int .i64 0,.int .i64 0,.bool false,.int .i64 0,.int .i64 0,.slice none 0 0]),19,200):=by kernel_rfl
theorem Mem.begun_set {w:World} {r:Nat} {st:RS} {own:Own} {g:Gh} {vp vt vr ve:Value} (P:Mem w r st own g vp vt vr ve) (n:Int) :
  Mem (w.setCell ⟨r,7,none⟩ (.int .i64 n)) r { st with begun:=n } own g vp vt vr ve:=by
 have k:∀ c t,own c=some t→t≠(1,0,0,0)→(w.setCell ⟨r,7,none⟩ (.int .i64 n)).heap[c]?=w.heap[c]?:=fun c t hc hne=>heap_setCell_ne _ _ _ _ _ (fun e=>by rw [e,P.rootTag] at hc; exact hne (Option.some.inj hc).symm)
 exact {
  root:=by have:=heap_setCell_same w r 7 _ _ (.int .i64 n) P.root; simpa using this
  rootTag:=P.rootTag
  places:=P.places.frame (fun c hc=>k c _ hc (by decide)) (fun _ h=>h)
  txns:=P.txns.frame (fun c hc=>k c _ hc (by decide)) (fun _ h=>h)
  recs:=P.recs.frame (fun c hc=>k c _ hc (by decide)) (fun _ h=>h)
  ended:=P.ended.frame (fun c hc=>k c _ hc (by decide)) (fun _ h=>h)
  olds:=fun t ht=>(P.olds t ht).frame (fun c hc=>k c _ hc (by intro h; cases h)) (fun _ h=>h)
  puts:=fun t ht=>(P.puts t ht).frame (fun c hc=>k c _ hc (by intro h; cases h)) (fun _ h=>h)
  told:=fun t ht hr=>(P.told t ht hr).frame (fun c hc=>k c _ hc (by intro h; cases h)) (fun _ h=>h)
  toldV:=P.toldV
  old:=fun c hc=>by have:=P.old c hc; simpa using this }
theorem Chg.root_set {w:World} {own:Own} {r j:Nat} {t:Tag} (h:own r=some t) (u:Value):Chg own w (w.setCell ⟨r,j,none⟩ u) own :=
 ⟨rfl,rfl,rfl,by simp,fun k _ hn=>heap_setCell_ne _ _ _ _ _ (fun e=>by rw [e,h] at hn; cases hn),fun _ _ h=>h,fun _ h=>.inl h⟩
theorem Mem.txn_app {wr W w1:World} {r:Nat} {st:RS} {own:Own} {g:Gh} {vp vr ve:Value} {ao:Option Addr} {cap gg cap' H:Nat} {x:Wh} {n:Int}
  (P:Mem wr r st own g vp (.slice ao st.txns.length cap) vr ve) (hx:∀ t∈st.txns,t.who≠x)
  (hWb:∀ k,k < wr.heap.size→W.heap[k]?=wr.heap[k]?) (hWs:wr.heap.size≤W.heap.size) (hWo:W.os=wr.os) (hWt:W.tape=wr.tape) (hWp:W.output=wr.output)
  (hgrow:W.grownBy w1 (Value.slice ao st.txns.length cap).ownBlock)
  (hown1:w1.ownsRow 0 162 19 (.slice (some ⟨gg,0,none⟩) (st.txns.length+1) cap') (st.txns.length+1) (st.txns.flatMap (txnC g)++txnC (gSet g x (.slice none 0 0,.slice none 0 0,.slice none 0 0)) (newTx x n)))
  (hat:(Value.slice ao st.txns.length cap).ownBlock=some gg∨gg=H) (hH:wr.heap.size≤H) (hlt:gg < w1.heap.size) :
  ∃ own',Rep (w1.setCell ⟨r,4,none⟩ (.slice (some ⟨gg,0,none⟩) (st.txns.length+1) cap')) r { st with txns:=st.txns++[newTx x n] } own' ∧
   Chg own wr (w1.setCell ⟨r,4,none⟩ (.slice (some ⟨gg,0,none⟩) (st.txns.length+1) cap')) own':=by
 have hcg:st.txns.flatMap (txnC g)=st.txns.flatMap (txnC (gSet g x (.slice none 0 0,.slice none 0 0,.slice none 0 0))) :=
  (flatMap_congr' (fun y hy=>txnC_other g _ (hx y hy))).symm
 rw [hcg] at hown1
 obtain ⟨hchg,hkeep,hroot',hrow',hold'⟩:=grow_root (j:=4) (H:=H) (x:=newTx x n) (f:=txnC (gSet g x (.slice none 0 0,.slice none 0 0,.slice none 0 0))) P.root P.rootTag (t0:=(3,0,0,0)) (by decide) P.old P.txns.2 hWb hWs hWo hWt hWp hgrow hown1 hat hH hlt
 refine ⟨_,⟨gSet g x (.slice none 0 0,.slice none 0 0,.slice none 0 0),vp,.slice (some ⟨gg,0,none⟩) (st.txns.length+1) cap',vr,ve,?_⟩,hchg⟩
 have nl:∀ {α:Type} (w:World) (own:Own) (tag:Tag) (e size:Nat) (f:α→List Value),Row w own tag e size (.slice none 0 0) ([]:List α) f:=fun w own tag e size f =>
  ⟨World.ownsRow_nil w 0 e size,fun b hb=>by cases hb⟩
 have split:∀ u∈st.txns++[newTx x n],u=newTx x n∨(u∈st.txns∧u.who≠x):=by
  intro u hu
  rcases List.mem_append.1 hu with h | h
  ·exact .inr ⟨h,hx u h⟩
  ·left; simpa using h
 exact {
  root:=by simpa using hroot'
  rootTag:=hchg.ext _ _ P.rootTag
  places:=P.places.frame (fun b hb=>hkeep b _ hb (by decide) (by decide)) (fun b hb=>hchg.ext b _ hb)
  txns:=hrow'
  recs:=P.recs.frame (fun b hb=>hkeep b _ hb (by decide) (by decide)) (fun b hb=>hchg.ext b _ hb)
  ended:=P.ended.frame (fun b hb=>hkeep b _ hb (by decide) (by decide)) (fun b hb=>hchg.ext b _ hb)
  olds:=fun u hu=>by
   rcases split u hu with rfl | ⟨h,hw⟩
   ·simp only [newTx,gSet_same]; exact nl _ _ _ _ _ _
   ·rw [gSet_other g _ hw]
    exact (P.olds u h).frame (fun b hb=>hkeep b _ hb (by intro h; cases h) (by intro h; cases h)) (fun b hb=>hchg.ext b _ hb)
  puts:=fun u hu=>by
   rcases split u hu with rfl | ⟨h,hw⟩
   ·simp only [newTx,gSet_same]; exact nl _ _ _ _ _ _
   ·rw [gSet_other g _ hw]
    exact (P.puts u h).frame (fun b hb=>hkeep b _ hb (by intro h; cases h) (by intro h; cases h)) (fun b hb=>hchg.ext b _ hb)
  told:=fun u hu hr=>by
   rcases split u hu with rfl | ⟨h,hw⟩
   ·simp only [newTx] at hr; cases hr
   ·rw [gSet_other g _ hw]
    exact (P.told u h hr).frame (fun b hb=>hkeep b _ hb (by intro h; cases h) (by intro h; cases h)) (fun b hb=>hchg.ext b _ hb)
  toldV:=fun u hu=>by
   rcases split u hu with rfl | ⟨h,hw⟩
   ·simp only [newTx,gSet_same]; rfl
   ·rw [gSet_other g _ hw]; exact P.toldV u h
  old:=hold' }
theorem begin_live (r:Nat) (x:Wh) (i:Int) (w:World) (hi:0≤i) :
  Calls Try.prog 92 #[.pointer (some ⟨r,0,none⟩),.agg #[.int .i64 x.1,.int .i64 x.2.1,.int .i64 x.2.2],.int .i64 i] w fun e w'=>e=.returned (ansV 6 0 (.slice none 0 0))∧Below w.heap.size w w':=by
 unfold ansV
 go_enter Try.func92,Try.ntmps92
 go_wp2_with fail
 refine (code_any 6 _).mono ?_
 rintro e w1 ⟨rfl,hb1⟩
 have hB1:=below2 hb1
 have hz:w.heap.size+2≤w1.heap.size:=by have:=hb1.size; simp at this; omega
 have hR:w1.heap[w.heap.size+1]?=some (.cells #[.int .i64 0,.int .i64 0,.slice none 0 0] 66 (0,0)):=by
  rw [hb1.block _ (by simp)]
  have:=heap_alloc_new (w.alloc (.cells #[.int .i64 x.1,.int .i64 x.2.1,.int .i64 x.2.2] 28)) (.cells #[.int .i64 0,.int .i64 0,.slice none 0 0] 66 (0,0))
  simpa using this
 obtain ⟨e0,e1,e2,f0,f1,f2⟩:=ans_cells hR
 have HS:Hid ((((w1.setCell ⟨w.heap.size+1,0,none⟩ (.int .i64 6)).setCell ⟨w.heap.size+1,1,none⟩ (.int .i64 0)).setCell ⟨w.heap.size+1,2,none⟩ (.slice none 0 0)).heap[w.heap.size+1]?=some (.cells #[.int .i64 6,.int .i64 0,.slice none 0 0] 66 (0,0))):=ans_stored (.int .i64 6) (.int .i64 0) (.slice none 0 0) hR
 have hbel:Below w.heap.size w (((w1.setCell ⟨w.heap.size+1,0,none⟩ (.int .i64 6)).setCell ⟨w.heap.size+1,1,none⟩ (.int .i64 0)).setCell ⟨w.heap.size+1,2,none⟩ (.slice none 0 0)) :=
  ((hB1.setCell (by simp) _).setCell (by simp) _).setCell (by simp) _
 clear hR hb1
 unfold ansV
 go_wp2
 exact ret_ans Try.results92 rfl HS.out rfl ⟨rfl,hbel⟩
theorem begin_new (r:Nat) (st:RS) (own:Own) (x:Wh) (i:Int) (w:World) (hm:Rep w r st own) (hi:i < 0) (hx:∀ t∈st.txns,t.who≠x) (hb:0≤st.begun∧st.begun < 4611686018427387904) (hln:st.txns.length < 4294967296) :
  Calls Try.prog 92 #[.pointer (some ⟨r,0,none⟩),.agg #[.int .i64 x.1,.int .i64 x.2.1,.int .i64 x.2.2],.int .i64 i] w fun e w' =>
   (st.v≤(cntIx x.lab st.txns:Int)∧e=.returned (ansV 4 0 (.slice none 0 0))∧Below w.heap.size w w') ∨
   (¬ st.v≤(cntIx x.lab st.txns:Int)∧e=.returned (ansV 0 0 (.slice none 0 0))∧∃ own',Rep w' r (st.beginT x) own'∧Chg own w w' own'):=by
 obtain ⟨i0,hi0,hz0,hs0,hb0⟩:=info_all info157
 have hol0:∀ k,own k≠none→k < w.heap.size:=by obtain ⟨g,vp,vt,vr,ve,m⟩:=hm; exact m.old
 have Hno:Hid (∀ k,w.heap.size≤k→own k=none):=fun k hk=>by
  cases hq:own k with
  | none=>rfl
  | some t=>have:=hol0 k (by rw [hq]; simp); omega
 have hrep:=hm
 obtain ⟨g,vp,vt,vr,ve,m⟩:=hm
 have M:=m
 obtain ⟨ao,cap,rfl,hmax,hel⟩:=m.txns.form (len_txnC g)
 have hrlt:=m.old r (by rw [m.rootTag]; simp)
 have hr4:w.cell? ⟨r,4,none⟩=some (.slice ao st.txns.length cap):=by rw [root_cell m.root]; rfl
 have hr1:w.cell? ⟨r,1,none⟩=some (.int .i64 st.v):=by rw [root_cell m.root]; rfl
 have hr7:w.cell? ⟨r,7,none⟩=some (.int .i64 st.begun):=by rw [root_cell m.root]; rfl
 have hf7:w.frozen? ⟨r,7,none⟩=false:=frozen_of_row w r 7 _ _ m.root
 have MM:Hid (Mem w r st own g vp (.slice ao st.txns.length cap) vr ve):=M
 have HX:Hid (∀ t∈st.txns,t.who≠x):=hx
 unfold maxLen at hmax
 clear m M hx hol0
 unfold ansV
 go_enter Try.func92,Try.ntmps92
 go_wp2_with fail
 have hA:Below w.heap.size w ((w.alloc (.cells #[.int .i64 x.1,.int .i64 x.2.1,.int .i64 x.2.2] 28)).alloc (.cells #[.int .i64 0,.int .i64 0,.slice none 0 0] 66)):=below2r
 have hXA:((w.alloc (.cells #[.int .i64 x.1,.int .i64 x.2.1,.int .i64 x.2.2] 28)).alloc (.cells #[.int .i64 0,.int .i64 0,.slice none 0 0] 66)).heap[w.heap.size]?=some (.cells #[.int .i64 x.1,.int .i64 x.2.1,.int .i64 x.2.2] 28 (0,0)):=by
  rw [Below.heap_alloc _ _ _ (by simp)]; exact heap_alloc_new w _
 have hRA:((w.alloc (.cells #[.int .i64 x.1,.int .i64 x.2.1,.int .i64 x.2.2] 28)).alloc (.cells #[.int .i64 0,.int .i64 0,.slice none 0 0] 66)).heap[w.heap.size+1]?=some (.cells #[.int .i64 0,.int .i64 0,.slice none 0 0] 66 (0,0)):=by
  have:=heap_alloc_new (w.alloc (.cells #[.int .i64 x.1,.int .i64 x.2.1,.int .i64 x.2.2] 28)) (.cells #[.int .i64 0,.int .i64 0,.slice none 0 0] 66 (0,0))
  simpa using this
 have hzA:((w.alloc (.cells #[.int .i64 x.1,.int .i64 x.2.1,.int .i64 x.2.2] 28)).alloc (.cells #[.int .i64 0,.int .i64 0,.slice none 0 0] 66)).heap.size=w.heap.size+2:=by simp
 generalize (w.alloc (.cells #[.int .i64 x.1,.int .i64 x.2.1,.int .i64 x.2.2] 28)).alloc (.cells #[.int .i64 0,.int .i64 0,.slice none 0 0] 66)=wA at *
 have HXA:Hid (wA.heap[w.heap.size]?=some (.cells #[.int .i64 x.1,.int .i64 x.2.1,.int .i64 x.2.2] 28 (0,0))):=hXA
 have HRA:Hid (wA.heap[w.heap.size+1]?=some (.cells #[.int .i64 0,.int .i64 0,.slice none 0 0] 66 (0,0))):=hRA
 have HzA:Hid (wA.heap.size=w.heap.size+2):=hzA
 clear hXA hRA hzA
 go_loopw [7,8] (fun cn i wr=>∃ k:Nat,k≤st.txns.length∧i=.int .i64 k∧cn=.int .i64 (cntIx x.lab (st.txns.take k))∧Below wA.heap.size wA wr) (fun _ i _=>st.txns.length - (intOf i).toNat)
 case atStart=>exact ⟨0,Nat.zero_le _,rfl,rfl,Below.refl _ _⟩
 case round =>
  obtain ⟨k,hk,rfl,rfl,hnx⟩:=hrel
  have hend:Below w.heap.size w wr:=hA.trans (hnx.mono hA.size)
  have c4:=cell_later hend hr4
  have hXr:wr.heap[w.heap.size]?=some (.cells #[.int .i64 x.1,.int .i64 x.2.1,.int .i64 x.2.2] 28 (0,0)):=(hnx.block _ (by have:=HzA.out; omega)).trans HXA.out
  have x0:wr.cell? ⟨w.heap.size,0,none⟩=some (.int .i64 x.1):=by rw [cell_of_row wr _ 0 _ _ _ hXr]; rfl
  have x1:wr.cell? ⟨w.heap.size,1,none⟩=some (.int .i64 x.2.1):=by rw [cell_of_row wr _ 1 _ _ _ hXr]; rfl
  have x2:wr.cell? ⟨w.heap.size,2,none⟩=some (.int .i64 x.2.2):=by rw [cell_of_row wr _ 2 _ _ _ hXr]; rfl
  have hcl:=cntIx_le x.lab (st.txns.take k)
  rw [List.length_take] at hcl
  by_cases hlt:k < st.txns.length
  ·obtain ⟨bt,rfl,_,hbt,hrg,_⟩:=hel k _ (List.getElem?_eq_getElem hlt)
   have gk:=List.getElem?_eq_getElem hlt
   generalize st.txns[k]=t at hrg gk
   have hrg':wr.rangeAt bt (k*19) (txnC g t):=rangeAt_below hrg hend (by omega)
   have y0:wr.cell? ⟨bt,k*19,none⟩=some (.int .i64 t.who.1):=hrg' 0 _ rfl
   have y1:wr.cell? ⟨bt,k*19+1,none⟩=some (.int .i64 t.who.2.1):=hrg' 1 _ rfl
   have zk:(k:Int) < (st.txns.length:Int):=by omega
   have q:cntIx x.lab (st.txns.take (k+1))=cntIx x.lab (st.txns.take k)+(if sameL t.who.1 t.who.2.1 x.1 x.2.1 then 1 else 0):=by
    rw [List.take_add_one,gk]
    simp only [cntIx,List.filter_append,List.length_append,Option.toList_some,List.filter_cons,List.filter_nil,Wh.lab]
    split<;>rfl
   have Q:Hid (cntIx x.lab (st.txns.take (k+1))=cntIx x.lab (st.txns.take k)+(if sameL t.who.1 t.who.2.1 x.1 x.2.1 then 1 else 0)):=q
   clear hrg hrg' hel gk q hXr
   have kne:=kin_some wr
   have k4:=kin_cell c4
   have kx0:=kin_cell x0
   have kx1:=kin_cell x1
   have ky0:=kin_cell y0
   have ky1:=kin_cell y1
   cases hs:sameL t.who.1 t.who.2.1 x.1 x.2.1
   ·have Q2:Hid (cntIx x.lab (st.txns.take (k+1))=cntIx x.lab (st.txns.take k)):=by unfold Hid; have:=Q.out; rw [hs] at this; simpa using this
    go_wp2_with fail
    refine wp_region_kin (by kernel_rfl) (by kernel_rfl) ?_
    repeat (first | go_big_quiet_step ((go_at_call 64; exact Calls.kin (sameLabel_is hs _))) | quiet_step ((go_at_call 64; exact Calls.kin (sameLabel_is hs _))))
    refine wpQuiet_nil ?_
    intro _ hw'
    obtain ⟨xq,hw''⟩:=hw'
    subst hw''
    go_wp2
    go_roundw
    case rel=>exact ⟨k+1,by omega,by go_num,by rw [Q2.out],hnx.trans (xq.h.mono hnx.size)⟩
    case measure=>simp [intOf]; omega
   ·have Q2:Hid (cntIx x.lab (st.txns.take (k+1))=cntIx x.lab (st.txns.take k)+1):=by unfold Hid; have:=Q.out; rw [hs] at this; simpa using this
    go_wp2_with fail
    refine wp_region_kin (by kernel_rfl) (by kernel_rfl) ?_
    repeat (first | go_big_quiet_step ((go_at_call 64; exact Calls.kin (sameLabel_is hs _))) | quiet_step ((go_at_call 64; exact Calls.kin (sameLabel_is hs _))))
    refine wpQuiet_nil ?_
    intro _ hw'
    obtain ⟨xq,hw''⟩:=hw'
    subst hw''
    go_wp2
    go_roundw
    case rel=>exact ⟨k+1,by omega,by go_num,by rw [Q2.out]; go_num,hnx.trans (xq.h.mono hnx.size)⟩
    case measure=>simp [intOf]; omega
  ·have e:k=st.txns.length:=by omega
   subst e
   rw [List.take_length] at *
   have c1:=cell_later hend hr1
   have HXr:Hid (wr.heap[w.heap.size]?=some (.cells #[.int .i64 x.1,.int .i64 x.2.1,.int .i64 x.2.2] 28 (0,0))):=hXr
   have HRr:Hid (wr.heap[w.heap.size+1]?=some (.cells #[.int .i64 0,.int .i64 0,.slice none 0 0] 66 (0,0))):=(hnx.block _ (by have:=HzA.out; omega)).trans HRA.out
   have hzr:w.heap.size+2≤wr.heap.size:=by have:=HzA.out; have:=hnx.size; omega
   clear hXr
   by_cases hq:st.v≤(cntIx x.lab st.txns:Int)
   ·have HQ:Hid (st.v≤(cntIx x.lab st.txns:Int)):=hq
    go_wp2_with fail
    refine (code_any 4 _).mono ?_
    rintro e w1 ⟨rfl,hb1⟩
    have hB1:Below w.heap.size w w1:=hend.trans (hb1.mono hend.size)
    have hR:w1.heap[w.heap.size+1]?=some (.cells #[.int .i64 0,.int .i64 0,.slice none 0 0] 66 (0,0)):=(hb1.block _ (by omega)).trans HRr.out
    obtain ⟨e0,e1,e2,f0,f1,f2⟩:=ans_cells hR
    have HS:Hid ((((w1.setCell ⟨w.heap.size+1,0,none⟩ (.int .i64 4)).setCell ⟨w.heap.size+1,1,none⟩ (.int .i64 0)).setCell ⟨w.heap.size+1,2,none⟩ (.slice none 0 0)).heap[w.heap.size+1]?=some (.cells #[.int .i64 4,.int .i64 0,.slice none 0 0] 66 (0,0))):=ans_stored (.int .i64 4) (.int .i64 0) (.slice none 0 0) hR
    have hbel:Below w.heap.size w (((w1.setCell ⟨w.heap.size+1,0,none⟩ (.int .i64 4)).setCell ⟨w.heap.size+1,1,none⟩ (.int .i64 0)).setCell ⟨w.heap.size+1,2,none⟩ (.slice none 0 0)) :=
     ((hB1.setCell (by simp) _).setCell (by simp) _).setCell (by simp) _
    clear hR hb1 hq
    unfold ansV
    go_wp2
    exact ret_ans Try.results92 rfl HS.out rfl (.inl ⟨HQ.out,rfl,hbel⟩)
   ·have HQ:Hid (¬ st.v≤(cntIx x.lab st.txns:Int)):=hq
    have c7:=cell_later hend hr7
    have f7:wr.frozen? ⟨r,7,none⟩=false:=by rw [hend.frozen (p:=⟨r,7,none⟩) hrlt]; exact hf7
    have Mr:Hid (Mem wr r st own g vp (.slice ao st.txns.length cap) vr ve):=MM.out.below hend
    obtain ⟨hbg0,hbg1⟩:=hb
    have MB:Hid (Mem (wr.setCell ⟨r,7,none⟩ (.int .i64 (st.begun+1))) r { st with begun:=st.begun+1 } own g vp (.slice ao st.txns.length cap) vr ve):=Mr.out.begun_set _
    have hCB:Chg own w (wr.setCell ⟨r,7,none⟩ (.int .i64 (st.begun+1))) own:=(Chg.of_below hend).trans (Chg.root_set Mr.out.rootTag _)
    have HCB:Hid (Chg own w (wr.setCell ⟨r,7,none⟩ (.int .i64 (st.begun+1))) own):=hCB
    have hXB:(wr.setCell ⟨r,7,none⟩ (.int .i64 (st.begun+1))).heap[w.heap.size]?=some (.cells #[.int .i64 x.1,.int .i64 x.2.1,.int .i64 x.2.2] 28 (0,0)):=by rw [heap_setCell_ne _ _ _ _ _ (by omega)]; exact HXr.out
    have HRB:Hid ((wr.setCell ⟨r,7,none⟩ (.int .i64 (st.begun+1))).heap[w.heap.size+1]?=some (.cells #[.int .i64 0,.int .i64 0,.slice none 0 0] 66 (0,0))):=by unfold Hid; rw [heap_setCell_ne _ _ _ _ _ (by omega)]; exact HRr.out
    have hzB:w.heap.size+2≤(wr.setCell ⟨r,7,none⟩ (.int .i64 (st.begun+1))).heap.size:=by simp; omega
    clear hCB x0 x1 x2
    go_wp2_with fail
    generalize hwB:wr.setCell ⟨r,7,none⟩ (.int .i64 (st.begun+1))=wB at *
    clear hwB
    have s4:wB.cell? ⟨r,4,none⟩=some (.slice ao st.txns.length cap):=by rw [root_cell MB.out.root]; rfl
    have s7:wB.cell? ⟨r,7,none⟩=some (.int .i64 (st.begun+1)):=by rw [root_cell MB.out.root]; rfl
    have hf4:wB.frozen? ⟨r,4,none⟩=false:=frozen_of_row wB r 4 _ _ MB.out.root
    have z0:wB.cell? ⟨w.heap.size,0,none⟩=some (.int .i64 x.1):=by rw [cell_of_row wB _ 0 _ _ _ hXB]; rfl
    have z1:wB.cell? ⟨w.heap.size,1,none⟩=some (.int .i64 x.2.1):=by rw [cell_of_row wB _ 1 _ _ _ hXB]; rfl
    have z2:wB.cell? ⟨w.heap.size,2,none⟩=some (.int .i64 x.2.2):=by rw [cell_of_row wB _ 2 _ _ _ hXB]; rfl
    have hrB:r < wB.heap.size:=by omega
    clear hXB c4 c1 c7 f7 hnx
    have hS:(fun w':World=>w'.cell? ⟨r,4,none⟩=some (.slice ao st.txns.length cap)∧w'.cell? ⟨r,7,none⟩=some (.int .i64 (st.begun+1))∧w'.cell? ⟨w.heap.size,0,none⟩=some (.int .i64 x.1)∧w'.cell? ⟨w.heap.size,1,none⟩=some (.int .i64 x.2.1)∧w'.cell? ⟨w.heap.size,2,none⟩=some (.int .i64 x.2.2)) wB.drew:=⟨s4,s7,z0,z1,z2⟩
    refine wp_region_Z (z:=15) (S:=fun w'=>w'.cell? ⟨r,4,none⟩=some (.slice ao st.txns.length cap)∧w'.cell? ⟨r,7,none⟩=some (.int .i64 (st.begun+1))∧w'.cell? ⟨w.heap.size,0,none⟩=some (.int .i64 x.1)∧w'.cell? ⟨w.heap.size,1,none⟩=some (.int .i64 x.2.1)∧w'.cell? ⟨w.heap.size,2,none⟩=some (.int .i64 x.2.2)) (by kernel_rfl) ?_
    refine zT (i:=0) (v:=?v1) (by decide +kernel) rfl (fun _ _ _ h=>h) hS (.inl ⟨by rfl,?y1⟩) ?_
    case y1=>(rintro wz ⟨zs0,zs1,zs2,zs3,zs4⟩; go_simp<;>with_reducible rfl)
    simp only [Act.put,z1,z2,z3,z4,z5,z6]
    refine zT (i:=1) (v:=?v2) (by decide +kernel) rfl (fun _ _ _ h=>h) hS (.inl ⟨by rfl,?y2⟩) ?_
    case y2=>(rintro wz ⟨zs0,zs1,zs2,zs3,zs4⟩; go_simp<;>with_reducible rfl)
    simp only [Act.put,z1,z2,z3,z4,z5,z6]
    refine zT (i:=2) (v:=?v3) (by decide +kernel) rfl (fun _ _ _ h=>h) hS (.inl ⟨by rfl,?y3⟩) ?_
    case y3=>(rintro wz ⟨zs0,zs1,zs2,zs3,zs4⟩; go_simp<;>with_reducible rfl)
    simp only [Act.put,z1,z2,z3,z4,z5,z6]
    refine zT (i:=3) (v:=?v4) (by decide +kernel) rfl (fun _ _ _ h=>h) hS (.inl ⟨by rfl,?y4⟩) ?_
    case y4=>(rintro wz ⟨zs0,zs1,zs2,zs3,zs4⟩; go_simp<;>with_reducible rfl)
    simp only [Act.put,z1,z2,z3,z4,z5,z6]
    refine zT (i:=4) (v:=?v5) (by decide +kernel) rfl (fun _ _ _ h=>h) hS (.inl ⟨by rfl,?y5⟩) ?_
    case y5=>(rintro wz ⟨zs0,zs1,zs2,zs3,zs4⟩; go_simp<;>with_reducible rfl)
    simp only [Act.put,z1,z2,z3,z4,z5,z6]
    refine zT (i:=5) (v:=?v6) (by decide +kernel) rfl (fun _ _ _ h=>h) hS (.inl ⟨by rfl,?y6⟩) ?_
    case y6=>(rintro wz ⟨zs0,zs1,zs2,zs3,zs4⟩; go_simp<;>with_reducible rfl)
    simp only [Act.put,z1,z2,z3,z4,z5,z6]
    refine zT (i:=6) (v:=?v7) (by decide +kernel) rfl (fun _ _ _ h=>h) hS (.inl ⟨by rfl,?y7⟩) ?_
    case y7=>(rintro wz ⟨zs0,zs1,zs2,zs3,zs4⟩; go_simp<;>with_reducible rfl)
    simp only [Act.put,z1,z2,z3,z4,z5,z6]
    refine zT (i:=7) (v:=?v8) (by decide +kernel) rfl (fun _ _ _ h=>h) hS (.inl ⟨by rfl,?y8⟩) ?_
    case y8=>(rintro wz ⟨zs0,zs1,zs2,zs3,zs4⟩; go_simp<;>with_reducible rfl)
    simp only [Act.put,z1,z2,z3,z4,z5,z6]
    refine zT (i:=8) (v:=?v9) (by decide +kernel) rfl (fun _ _ _ h=>h) hS (.inl ⟨by rfl,?y9⟩) ?_
    case y9=>(rintro wz ⟨zs0,zs1,zs2,zs3,zs4⟩; go_simp<;>with_reducible rfl)
    simp only [Act.put,z1,z2,z3,z4,z5,z6]
    refine zT (i:=9) (v:=?v10) (by decide +kernel) rfl (fun _ _ _ h=>h) hS (.inl ⟨by rfl,?y10⟩) ?_
    case y10=>(rintro wz ⟨zs0,zs1,zs2,zs3,zs4⟩; go_simp<;>with_reducible rfl)
    simp only [Act.put,z1,z2,z3,z4,z5,z6]
    refine zT (i:=10) (v:=?v11) (by decide +kernel) rfl (fun _ _ _ h=>h) hS (.inl ⟨by rfl,?y11⟩) ?_
    case y11=>(rintro wz ⟨zs0,zs1,zs2,zs3,zs4⟩; go_simp<;>with_reducible rfl)
    simp only [Act.put,z1,z2,z3,z4,z5,z6]
    refine wpAnyZ_one (i:=11) (by decide +kernel) rfl (fun K hK=>?_)
    go_simp
    have nlt:∀ q,q < wB.heap.size→∀ j v,wB.cell? ⟨q,j,none⟩=some v→(wB.alloc (.cells #[.int .i64 x.1,.int .i64 x.2.1,.int .i64 x.2.2,.int .i64 (st.begun+1),.slice none 0 0,.slice none 0 0,.int .i64 0,.int .i64 0,.int .i64 0,.int .i64 0,.int .i64 0,.int .i64 0,.int .i64 0,.int .i64 0,.int .i64 0,.bool false,.int .i64 0,.int .i64 0,.slice none 0 0] 162)).drew.cell? ⟨q,j,none⟩=some v:=fun q hq j v h=>by
     rw [World.cell?_drew,World.cell?_alloc_lt _ _ _ hq]; exact h
    refine hK _ _ (fun _=>⟨nlt _ hrB _ _ s4,nlt _ hrB _ _ s7,nlt _ (by omega) _ _ z0,nlt _ (by omega) _ _ z1,nlt _ (by omega) _ _ z2⟩) ?_
    clear hK
    refine wpAnyZ_one (i:=12) (by decide +kernel) rfl (fun K hK=>?_)
    refine step_append_lies _ (by rfl) _ _ _ (by rfl) 0 162 i0 _ 19 200 Try.underlying102 hi0 hz0 hs0 hb0 rfl (by omega) (.slice ao st.txns.length cap) st.txns.length (st.txns.flatMap (txnC g)) (by rfl) ((MB.out.txns.1.alloc _).drew)
     ⟨wB.heap.size,0,none⟩ 1 1 [.int .i64 x.1,.int .i64 x.2.1,.int .i64 x.2.2,.int .i64 (st.begun+1),.slice none 0 0,.slice none 0 0,.int .i64 0,.int .i64 0,.int .i64 0,.int .i64 0,.int .i64 0,.int .i64 0,.int .i64 0,.int .i64 0,.int .i64 0,.bool false,.int .i64 0,.int .i64 0,.slice none 0 0] (by rfl) (by rfl) (World.news_of_block (cs:=#[.int .i64 x.1,.int .i64 x.2.1,.int .i64 x.2.2,.int .i64 (st.begun+1),.slice none 0 0,.slice none 0 0,.int .i64 0,.int .i64 0,.int .i64 0,.int .i64 0,.int .i64 0,.int .i64 0,.int .i64 0,.int .i64 0,.int .i64 0,.bool false,.int .i64 0,.int .i64 0,.slice none 0 0]) (t:=162) (fr:=(0,0)) (heap_alloc_new wB _)) (by simp [Value.oneCell'])
     (by omega) (by unfold maxLen; omega) (by omega) (Nat.zero_le _) (wB.heap.size+1) (by simp) ?_
    intro gg cap' w1 hown1 hgrow hat hlt1
    simp only [Act.put,List.getElem_toArray,List.getElem_cons_zero,List.getElem_cons_succ,List.setIfInBounds_toArray,List.set_cons_zero,List.set_cons_succ]
    have hnb:∀ q,(Value.slice ao st.txns.length cap).ownBlock=some q→own q=some (3,0,0,0):=MB.out.txns.2
    have nr:(Value.slice ao st.txns.length cap).ownBlock≠some r:=fun e=>by have:=hnb r e; rw [MM.out.rootTag] at this; cases this
    have nx:(Value.slice ao st.txns.length cap).ownBlock≠some w.heap.size:=fun e=>by have:=hnb _ e; rw [Hno.out _ (by omega)] at this; cases this
    have q4:=hgrow.cell (nlt _ hrB _ _ s4) (Ne.symm nr)
    have q7:=hgrow.cell (nlt _ hrB _ _ s7) (Ne.symm nr)
    have y0:=hgrow.cell (nlt _ (by omega) _ _ z0) (Ne.symm nx)
    have y1:=hgrow.cell (nlt _ (by omega) _ _ z1) (Ne.symm nx)
    have y2:=hgrow.cell (nlt _ (by omega) _ _ z2) (Ne.symm nx)
    have fo:w1.frozen? ⟨r,4,none⟩=false:=by
     rw [World.frozen?_of_block (hgrow.block r (by simp; omega) (Ne.symm nr))]
     rw [World.frozen?_drew,World.frozen?_alloc_past _ _ _ (by omega)]; exact hf4
    refine hK _ _ (fun _=>⟨q4,q7,y0,y1,y2⟩) ?_
    clear hK
    refine wpAnyZ_one (i:=13) (by decide +kernel) rfl (fun K hK=>?_)
    go_simp
    refine hK _ _ (fun _=>⟨q4,q7,y0,y1,y2⟩) ?_
    clear hK
    refine wpAnyZ_one (i:=14) (by decide +kernel) rfl (fun K hK=>?_)
    go_simp
    refine hK _ _ (fun _=>⟨q4,q7,y0,y1,y2⟩) ?_
    clear hK
    refine wpAnyZ_one (i:=15) (by decide +kernel) rfl (fun K hK=>?_)
    go_simp
    refine hK _ _ (fun h=>absurd rfl h) ?_
    clear hK
    refine wpAnyZ_done (by decide +kernel) ?_ _
    have hown2:w1.ownsRow 0 162 19 (.slice (some ⟨gg,0,none⟩) (st.txns.length+1) cap') (st.txns.length+1) (st.txns.flatMap (txnC g)++txnC (gSet g x (.slice none 0 0,.slice none 0 0,.slice none 0 0)) (newTx x (st.begun+1))):=by
     have e:txnC (gSet g x (.slice none 0 0,.slice none 0 0,.slice none 0 0)) (newTx x (st.begun+1))=[.int .i64 x.1,.int .i64 x.2.1,.int .i64 x.2.2,.int .i64 (st.begun+1),.slice none 0 0,.slice none 0 0,.int .i64 0,.int .i64 0,.int .i64 0,.int .i64 0,.int .i64 0,.int .i64 0,.int .i64 0,.int .i64 0,.int .i64 0,.bool false,.int .i64 0,.int .i64 0,.slice none 0 0]:=by
      simp [txnC,newTx,gSet_same,stepC,zeroStp]
     rw [e]; exact hown1
    obtain ⟨own2,hrep2,hchg2⟩:=MB.out.txn_app (W:=(wB.alloc (.cells #[.int .i64 x.1,.int .i64 x.2.1,.int .i64 x.2.2,.int .i64 (st.begun+1),.slice none 0 0,.slice none 0 0,.int .i64 0,.int .i64 0,.int .i64 0,.int .i64 0,.int .i64 0,.int .i64 0,.int .i64 0,.int .i64 0,.int .i64 0,.bool false,.int .i64 0,.int .i64 0,.slice none 0 0] 162)).drew) (H:=wB.heap.size+1) (x:=x) (n:=st.begun+1) HX.out (fun k hk=>Below.heap_alloc _ _ _ hk) (by simp) rfl rfl rfl hgrow hown2 hat (by omega) hlt1
    have hfrR:own (w.heap.size+1)=none:=Hno.out _ (by omega)
    have HR4:Hid ((w1.setCell ⟨r,4,none⟩ (.slice (some ⟨gg,0,none⟩) (st.txns.length+1) cap')).heap[w.heap.size+1]?=some (.cells #[.int .i64 0,.int .i64 0,.slice none 0 0] 66 (0,0))):=by
     unfold Hid; rw [hchg2.block _ (by omega) hfrR]; exact HRB.out
    have hfr2:own2 (w.heap.size+1)=none:=hchg2.none' hfrR (by omega)
    have hz5:=hchg2.size
    generalize w1.setCell ⟨r,4,none⟩ (.slice (some ⟨gg,0,none⟩) (st.txns.length+1) cap')=w5 at *
    clear hown1 hown2 hgrow hat hlt1 q4 q7 y0 y1 y2 fo s4 s7 z0 z1 z2 nlt
    go_wp2_with fail
    refine (code_any 0 _).mono ?_
    rintro e w6 ⟨rfl,hb6⟩
    have hR6:w6.heap[w.heap.size+1]?=some (.cells #[.int .i64 0,.int .i64 0,.slice none 0 0] 66 (0,0)):=(hb6.block _ (by omega)).trans HR4.out
    obtain ⟨e0,e1,e2,f0,f1,f2⟩:=ans_cells hR6
    have HS:Hid ((((w6.setCell ⟨w.heap.size+1,0,none⟩ (.int .i64 0)).setCell ⟨w.heap.size+1,1,none⟩ (.int .i64 0)).setCell ⟨w.heap.size+1,2,none⟩ (.slice none 0 0)).heap[w.heap.size+1]?=some (.cells #[.int .i64 0,.int .i64 0,.slice none 0 0] 66 (0,0))):=ans_stored (.int .i64 0) (.int .i64 0) (.slice none 0 0) hR6
    have hrep6:=hrep2.below hb6
    have hrep':=((hrep6.free (j:=0) hfr2 (.int .i64 0)).free (j:=1) hfr2 (.int .i64 0)).free (j:=2) hfr2 (.slice none 0 0)
    have hch0:=(HCB.out.trans hchg2).trans (Chg.of_below hb6)
    have hch':=((hch0.free (b:=w.heap.size+1) (j:=0) (by omega) (.int .i64 0)).free (b:=w.heap.size+1) (j:=1) (by omega) (.int .i64 0)).free (b:=w.heap.size+1) (j:=2) (by omega) (.slice none 0 0)
    have hfin:∃ own',Rep (((w6.setCell ⟨w.heap.size+1,0,none⟩ (.int .i64 0)).setCell ⟨w.heap.size+1,1,none⟩ (.int .i64 0)).setCell ⟨w.heap.size+1,2,none⟩ (.slice none 0 0)) r (st.beginT x) own'∧Chg own w (((w6.setCell ⟨w.heap.size+1,0,none⟩ (.int .i64 0)).setCell ⟨w.heap.size+1,1,none⟩ (.int .i64 0)).setCell ⟨w.heap.size+1,2,none⟩ (.slice none 0 0)) own':=⟨own2,hrep',hch'⟩
    clear hR6 hrep2 hrep6 hchg2 hch0 hb6
    unfold ansV
    go_wp2
    refine ret_ans Try.results92 rfl HS.out rfl ?_
    first | exact .inr ⟨HQ.out,rfl,hfin⟩ | exact ⟨rfl,hfin⟩ | exact .inr ⟨rfl,hfin⟩
end Go.Proofs.Ytpbcplfpjcacfaa
namespace Go.Proofs.Ytpbcplfpjcacfaa
open Go.RowKit
set_option maxRecDepth 100000
set_option maxHeartbeats 8000000
def ownNew (own:Own) (v:Value) (t:Tag):Own:=fun b=>if v.ownBlock=some b then some t else own b
theorem new_root {wE w2:World} {own:Own} {r j ty e size n:Nat} {v:Value} {t0:Tag} {xs:List Value} {C:Array Value}
  (hroot:wE.heap[r]?=some (.cells C ty (0,0))) (hrt:own r=some (1,0,0,0)) (hold:∀ k,own k≠none→k < wE.heap.size)
  (hb:Below wE.heap.size wE w2) (hown:w2.ownsRow wE.heap.size e size v n xs) :
  Chg own wE (w2.setCell ⟨r,j,none⟩ v) (ownNew own v t0) ∧
  (∀ b t,own b=some t→t≠(1,0,0,0)→(w2.setCell ⟨r,j,none⟩ v).heap[b]?=wE.heap[b]?) ∧
  (w2.setCell ⟨r,j,none⟩ v).heap[r]?=some (.cells (C.setIfInBounds j v) ty (0,0)) ∧
  ((w2.setCell ⟨r,j,none⟩ v).ownsRow 0 e size v n xs∧∀ b,v.ownBlock=some b→ownNew own v t0 b=some t0) ∧
  (∀ k,ownNew own v t0 k≠none→k < (w2.setCell ⟨r,j,none⟩ v).heap.size):=by
 have hrlt:r < wE.heap.size:=(Array.getElem?_eq_some_iff.1 hroot).1
 have hge:∀ b,v.ownBlock=some b→wE.heap.size≤b∧b < w2.heap.size:=fun b h=>hown.lt b h
 have hext:∀ k t,own k=some t→ownNew own v t0 k=some t:=by
  intro k t hk
  unfold ownNew
  split
  ·rename_i h; have:=(hge k h).1; have:=hold k (by rw [hk]; simp); omega
  ·exact hk
 refine ⟨⟨?_,?_,?_,?_,?_,hext,?_⟩,?_,?_,⟨?_,?_⟩,?_⟩
 ·exact hb.os
 ·exact hb.tape
 ·exact hb.output
 ·simpa using hb.size
 ·intro k hk hn
  rw [heap_setCell_ne _ _ _ _ _ (fun e=>by rw [e,hrt] at hn; cases hn)]
  exact hb.block k hk
 ·intro k hk
  unfold ownNew at hk
  split at hk
  ·rename_i h; exact .inr (hge k h).1
  ·exact .inl hk
 ·intro b t h1 h2
  rw [heap_setCell_ne _ _ _ _ _ (fun e=>by rw [e,hrt] at h1; exact h2 (Option.some.inj h1).symm)]
  exact hb.block b (hold b (by rw [h1]; simp))
 ·exact heap_setCell_same w2 r j C ty v (by rw [hb.block r hrlt]; exact hroot)
 ·obtain ⟨hl,ho⟩:=hown
  refine ⟨hl,?_⟩
  rcases ho with h | ⟨b,c,d,e1,e2,e3,e4⟩
  ·exact .inl h
  ·exact .inr ⟨b,c,d,e1,Nat.zero_le _,by rw [heap_setCell_ne _ _ _ _ _ (by omega)]; exact e3,e4⟩
 ·intro b h
  simp [ownNew,h]
 ·intro k hk
  unfold ownNew at hk
  split at hk
  ·rename_i h; have:=(hge k h).2; simpa using this
  ·have:=hold k hk; have:=hb.size; simp; omega
theorem Mem.txns_new {wE w2:World} {r:Nat} {st:RS} {own:Own} {g:Gh} {vp vt vr ve v:Value} {l:List Tx} (P:Mem wE r st own g vp vt vr ve) (hl:∀ t∈l,t∈st.txns)
  (hb:Below wE.heap.size wE w2) (hown:w2.ownsRow wE.heap.size 162 19 v l.length (l.flatMap (txnC g))) :
  Mem (w2.setCell ⟨r,4,none⟩ v) r { st with txns:=l } (ownNew own v (3,0,0,0)) g vp v vr ve∧Chg own wE (w2.setCell ⟨r,4,none⟩ v) (ownNew own v (3,0,0,0)) ∧
   (∀ b t,own b=some t→t≠(1,0,0,0)→(w2.setCell ⟨r,4,none⟩ v).heap[b]?=wE.heap[b]?):=by
 obtain ⟨hchg,hkeep,hroot',hrow',hold'⟩:=new_root (j:=4) (t0:=(3,0,0,0)) P.root P.rootTag P.old hb hown
 refine ⟨?_,hchg,hkeep⟩
 exact {
  root:=by simpa using hroot'
  rootTag:=hchg.ext _ _ P.rootTag
  places:=P.places.frame (fun b hb=>hkeep b _ hb (by decide)) (fun b hb=>hchg.ext b _ hb)
  txns:=hrow'
  recs:=P.recs.frame (fun b hb=>hkeep b _ hb (by decide)) (fun b hb=>hchg.ext b _ hb)
  ended:=P.ended.frame (fun b hb=>hkeep b _ hb (by decide)) (fun b hb=>hchg.ext b _ hb)
  olds:=fun t ht=>(P.olds t (hl t ht)).frame (fun b hb=>hkeep b _ hb (by intro h; cases h)) (fun b hb=>hchg.ext b _ hb)
  puts:=fun t ht=>(P.puts t (hl t ht)).frame (fun b hb=>hkeep b _ hb (by intro h; cases h)) (fun b hb=>hchg.ext b _ hb)
  told:=fun t ht hr=>(P.told t (hl t ht) hr).frame (fun b hb=>hkeep b _ hb (by intro h; cases h)) (fun b hb=>hchg.ext b _ hb)
  toldV:=fun t ht=>P.toldV t (hl t ht)
  old:=hold' }
theorem Mem.recs_new {wE w2:World} {r:Nat} {st:RS} {own:Own} {g:Gh} {vp vt vr ve v:Value} {l:List Rc} (P:Mem wE r st own g vp vt vr ve)
  (hb:Below wE.heap.size wE w2) (hown:w2.ownsRow wE.heap.size 108 10 v l.length (l.flatMap recC)) :
  Mem (w2.setCell ⟨r,5,none⟩ v) r { st with recs:=l } (ownNew own v (4,0,0,0)) g vp vt v ve∧Chg own wE (w2.setCell ⟨r,5,none⟩ v) (ownNew own v (4,0,0,0)) ∧
   (∀ b t,own b=some t→t≠(1,0,0,0)→(w2.setCell ⟨r,5,none⟩ v).heap[b]?=wE.heap[b]?):=by
 obtain ⟨hchg,hkeep,hroot',hrow',hold'⟩:=new_root (j:=5) (t0:=(4,0,0,0)) P.root P.rootTag P.old hb hown
 refine ⟨?_,hchg,hkeep⟩
 exact {
  root:=by simpa using hroot'
  rootTag:=hchg.ext _ _ P.rootTag
  places:=P.places.frame (fun b hb=>hkeep b _ hb (by decide)) (fun b hb=>hchg.ext b _ hb)
  txns:=P.txns.frame (fun b hb=>hkeep b _ hb (by decide)) (fun b hb=>hchg.ext b _ hb)
  recs:=hrow'
  ended:=P.ended.frame (fun b hb=>hkeep b _ hb (by decide)) (fun b hb=>hchg.ext b _ hb)
  olds:=fun t ht=>(P.olds t ht).frame (fun b hb=>hkeep b _ hb (by intro h; cases h)) (fun b hb=>hchg.ext b _ hb)
  puts:=fun t ht=>(P.puts t ht).frame (fun b hb=>hkeep b _ hb (by intro h; cases h)) (fun b hb=>hchg.ext b _ hb)
  told:=fun t ht hr=>(P.told t ht hr).frame (fun b hb=>hkeep b _ hb (by intro h; cases h)) (fun b hb=>hchg.ext b _ hb)
  toldV:=P.toldV
  old:=hold' }
theorem Mem.ended_app {wr W w1:World} {r:Nat} {st:RS} {own:Own} {g:Gh} {vp vt vr:Value} {ao:Option Addr} {cap gg cap' H:Nat} {x:Wh × Int}
  (P:Mem wr r st own g vp vt vr (.slice ao st.ended.length cap))
  (hWb:∀ k,k < wr.heap.size→W.heap[k]?=wr.heap[k]?) (hWs:wr.heap.size≤W.heap.size) (hWo:W.os=wr.os) (hWt:W.tape=wr.tape) (hWp:W.output=wr.output)
  (hgrow:W.grownBy w1 (Value.slice ao st.ended.length cap).ownBlock)
  (hown1:w1.ownsRow 0 173 4 (.slice (some ⟨gg,0,none⟩) (st.ended.length+1) cap') (st.ended.length+1) (st.ended.flatMap endC++endC x))
  (hat:(Value.slice ao st.ended.length cap).ownBlock=some gg∨gg=H) (hH:wr.heap.size≤H) (hlt:gg < w1.heap.size) :
  ∃ own',Rep (w1.setCell ⟨r,6,none⟩ (.slice (some ⟨gg,0,none⟩) (st.ended.length+1) cap')) r { st with ended:=st.ended++[x] } own' ∧
   Chg own wr (w1.setCell ⟨r,6,none⟩ (.slice (some ⟨gg,0,none⟩) (st.ended.length+1) cap')) own':=by
 obtain ⟨hchg,hkeep,hroot',hrow',hold'⟩:=grow_root (j:=6) (H:=H) (x:=x) (f:=endC) P.root P.rootTag (t0:=(5,0,0,0)) (by decide) P.old P.ended.2 hWb hWs hWo hWt hWp hgrow hown1 hat hH hlt
 refine ⟨_,⟨g,vp,vt,vr,.slice (some ⟨gg,0,none⟩) (st.ended.length+1) cap',?_⟩,hchg⟩
 exact {
  root:=by simpa using hroot'
  rootTag:=hchg.ext _ _ P.rootTag
  places:=P.places.frame (fun b hb=>hkeep b _ hb (by decide) (by decide)) (fun b hb=>hchg.ext b _ hb)
  txns:=P.txns.frame (fun b hb=>hkeep b _ hb (by decide) (by decide)) (fun b hb=>hchg.ext b _ hb)
  recs:=P.recs.frame (fun b hb=>hkeep b _ hb (by decide) (by decide)) (fun b hb=>hchg.ext b _ hb)
  ended:=hrow'
  olds:=fun t ht=>(P.olds t ht).frame (fun b hb=>hkeep b _ hb (by intro h; cases h) (by intro h; cases h)) (fun b hb=>hchg.ext b _ hb)
  puts:=fun t ht=>(P.puts t ht).frame (fun b hb=>hkeep b _ hb (by intro h; cases h) (by intro h; cases h)) (fun b hb=>hchg.ext b _ hb)
  told:=fun t ht hr=>(P.told t ht hr).frame (fun b hb=>hkeep b _ hb (by intro h; cases h) (by intro h; cases h)) (fun b hb=>hchg.ext b _ hb)
  toldV:=P.toldV
  old:=hold' }
end Go.Proofs.Ytpbcplfpjcacfaa
