import Derived.Test.YtpbcplfpjcacfaaT02
namespace Go.Proofs.Ytpbcplfpjcacfaa
open Go.RowKit
set_option maxRecDepth 100000
set_option maxHeartbeats 8000000
theorem Chg.trans {own own' own'':Own} {w w' w'':World} (h:Chg own w w' own') (k:Chg own' w' w'' own''):Chg own w w'' own'' where
 os:=k.os.trans h.os
 tape:=k.tape.trans h.tape
 output:=k.output.trans h.output
 size:=Nat.le_trans h.size k.size
 block:=fun b hb hn=>by
  have hn':own' b=none:=by
   cases hq:own' b with
   | none=>rfl
   | some t =>
    rcases h.fresh b (by rw [hq]; simp) with h1 | h1
    ·exact absurd hn h1
    ·omega
  rw [k.block b (Nat.lt_of_lt_of_le hb h.size) hn',h.block b hb hn]
 ext:=fun b t hb=>k.ext b t (h.ext b t hb)
 fresh:=fun b hb=>by
  rcases k.fresh b hb with h1 | h1
  ·exact h.fresh b h1
  ·exact .inr (Nat.le_trans h.size h1)
theorem flatMap_set {α:Type} (f:α→List Value) (size:Nat) (hf:∀ x,(f x).length=size) (x':α) (j:Nat) (u:Value):∀ (l:List α) (k:Nat) (x:α),l[k]?=some x→j < size→f x'=(f x).set j u →
  (l.set k x').flatMap f=(l.flatMap f).set (k*size+j) u
 | [],k,x,hx,_,_=>by simp at hx
 | a :: l,0,x,hx,hj,hfx=>by
  simp at hx; subst hx
  rw [List.set_cons_zero,List.flatMap_cons,List.flatMap_cons,hfx,Nat.zero_mul,Nat.zero_add,List.set_append_left _ _ (by rw [hf]; exact hj)]
 | a :: l,k+1,x,hx,hj,hfx=>by
  have hx':l[k]?=some x:=by simpa using hx
  rw [List.set_cons_succ,List.flatMap_cons,List.flatMap_cons,flatMap_set f size hf x' j u l k x hx' hj hfx,List.set_append_right _ _ (by rw [hf,Nat.add_mul]; omega),hf]
  congr 2
  rw [Nat.add_mul]; omega
theorem Row.set {α:Type} {w:World} {own:Own} {tag:Tag} {e size b cap:Nat} {l:List α} {f:α→List Value} (h:Row w own tag e size (.slice (some ⟨b,0,none⟩) l.length cap) l f) (hf:∀ x,(f x).length=size)
  {k j:Nat} {x x':α} {u:Value} (hx:l[k]?=some x) (hj:j < size) (hfx:f x'=(f x).set j u) :
  Row (w.setCell ⟨b,k*size+j,none⟩ u) own tag e size (.slice (some ⟨b,0,none⟩) l.length cap) (l.set k x') f:=by
 obtain ⟨⟨hl,ho⟩,ht⟩:=h
 refine ⟨⟨?_,?_⟩,ht⟩
 ·rw [flatMap_len f size _ hf,List.length_set]
 ·rcases ho with ⟨h,_⟩ | ⟨b',c,d,e1,e2,e3,e4,e5,e6,e7⟩
  ·cases h
  ·simp only [Value.slice.injEq,Option.some.injEq,Addr.mk.injEq,and_true,true_and] at e1
   obtain ⟨rfl,rfl⟩:=e1
   refine .inr ⟨b,cap,d.setIfInBounds (k*size+j) u,by rw [List.length_set],e2,heap_setCell_same w b (k*size+j) d e u e3,by rw [List.length_set]; exact e4,e5,by rw [Array.size_setIfInBounds]; exact e6,?_⟩
   rw [List.length_set,Array.toList_setIfInBounds,List.take_set,e7,flatMap_set f size hf x' j u l k x hx hj hfx]
theorem flatMap_congr' {α:Type} {f f':α→List Value}:∀ {l:List α},(∀ y∈l,f' y=f y)→l.flatMap f'=l.flatMap f
 | [],_=>rfl
 | a :: l,h=>by rw [List.flatMap_cons,List.flatMap_cons,h a (by simp),flatMap_congr' (fun y hy=>h y (by simp [hy]))]
theorem flatMap_set2 {α:Type} (f f':α→List Value) (size:Nat) (hf:∀ x,(f x).length=size) (x':α) (j:Nat) (u:Value):∀ (l:List α) (k:Nat) (x:α),l[k]?=some x→j < size→f' x'=(f x).set j u→(∀ m y,l[m]?=some y→m≠k→f' y=f y) →
  (l.set k x').flatMap f'=(l.flatMap f).set (k*size+j) u
 | [],k,x,hx,_,_,_=>by simp at hx
 | a :: l,0,x,hx,hj,hfx,hr=>by
  simp at hx; subst hx
  rw [List.set_cons_zero,List.flatMap_cons,List.flatMap_cons,hfx,Nat.zero_mul,Nat.zero_add,List.set_append_left _ _ (by rw [hf]; exact hj)]
  congr 1
  have:∀ y∈l,f' y=f y:=fun y hy=>by
   obtain ⟨m,hm⟩:=List.mem_iff_getElem?.1 hy
   exact hr (m+1) y (by simpa using hm) (by omega)
  exact flatMap_congr' this
 | a :: l,k+1,x,hx,hj,hfx,hr=>by
  have hx':l[k]?=some x:=by simpa using hx
  rw [List.set_cons_succ,List.flatMap_cons,List.flatMap_cons,flatMap_set2 f f' size hf x' j u l k x hx' hj hfx (fun m y hm hne=>hr (m+1) y (by simpa using hm) (by omega)),List.set_append_right _ _ (by rw [hf,Nat.add_mul]; omega),hf,
   hr 0 a (by simp) (by omega)]
  congr 2
  rw [Nat.add_mul]; omega
theorem Row.set2 {α:Type} {w:World} {own:Own} {tag:Tag} {e size b cap:Nat} {l:List α} {f:α→List Value} (h:Row w own tag e size (.slice (some ⟨b,0,none⟩) l.length cap) l f) (hf:∀ x,(f x).length=size)
  {f':α→List Value} (hf':∀ x,(f' x).length=size) {k j:Nat} {x x':α} {u:Value} (hx:l[k]?=some x) (hj:j < size) (hfx:f' x'=(f x).set j u) (hr:∀ m y,l[m]?=some y→m≠k→f' y=f y) :
  Row (w.setCell ⟨b,k*size+j,none⟩ u) own tag e size (.slice (some ⟨b,0,none⟩) l.length cap) (l.set k x') f':=by
 obtain ⟨⟨hl,ho⟩,ht⟩:=h
 refine ⟨⟨?_,?_⟩,ht⟩
 ·rw [flatMap_len f' size _ hf',List.length_set]
 ·rcases ho with ⟨h,_⟩ | ⟨b',c,d,e1,e2,e3,e4,e5,e6,e7⟩
  ·cases h
  ·simp only [Value.slice.injEq,Option.some.injEq,Addr.mk.injEq,and_true,true_and] at e1
   obtain ⟨rfl,rfl⟩:=e1
   refine .inr ⟨b,cap,d.setIfInBounds (k*size+j) u,by rw [List.length_set],e2,heap_setCell_same w b (k*size+j) d e u e3,by rw [List.length_set]; exact e4,e5,by rw [Array.size_setIfInBounds]; exact e6,?_⟩
   rw [List.length_set,Array.toList_setIfInBounds,List.take_set,e7,flatMap_set2 f f' size hf x' j u l k x hx hj hfx hr]
theorem grow_txn {α β:Type} {wr W w1:World} {own:Own} {bt n j gg cap cap' H e size et sz:Nat} {v0:Value} {t0 tt:Tag} {l:List α} {x:α} {f:α→List Value} {L:List β} {F F':β→List Value} {y y':β}
  (hL:Row wr own tt et sz (.slice (some ⟨bt,0,none⟩) L.length cap) L F) (hF:∀ x,(F x).length=sz) (hF':∀ x,(F' x).length=sz) (hy:L[n]?=some y) (hj:j < sz) (hbt:own bt=some tt) (htt:t0≠tt)
  (hfx:F' y'=(F y).set j (.slice (some ⟨gg,0,none⟩) (l.length+1) cap')) (hr:∀ m y,L[m]?=some y→m≠n→F' y=F y)
  (hold:∀ k,own k≠none→k < wr.heap.size) (hv0:∀ b,v0.ownBlock=some b→own b=some t0)
  (hWb:∀ k,k < wr.heap.size→W.heap[k]?=wr.heap[k]?) (hWs:wr.heap.size≤W.heap.size) (hWo:W.os=wr.os) (hWt:W.tape=wr.tape) (hWp:W.output=wr.output)
  (hgrow:W.grownBy w1 v0.ownBlock) (hown1:w1.ownsRow 0 e size (.slice (some ⟨gg,0,none⟩) (l.length+1) cap') (l.length+1) (l.flatMap f++f x))
  (hat:v0.ownBlock=some gg∨gg=H) (hH:wr.heap.size≤H) (hlt:gg < w1.heap.size) :
  Chg own wr (w1.setCell ⟨bt,n*sz+j,none⟩ (.slice (some ⟨gg,0,none⟩) (l.length+1) cap')) (ownAdd own gg t0) ∧
  (∀ b t,own b=some t→t≠t0→t≠tt→(w1.setCell ⟨bt,n*sz+j,none⟩ (.slice (some ⟨gg,0,none⟩) (l.length+1) cap')).heap[b]?=wr.heap[b]?) ∧
  Row (w1.setCell ⟨bt,n*sz+j,none⟩ (.slice (some ⟨gg,0,none⟩) (l.length+1) cap')) (ownAdd own gg t0) tt et sz (.slice (some ⟨bt,0,none⟩) L.length cap) (L.set n y') F' ∧
  Row (w1.setCell ⟨bt,n*sz+j,none⟩ (.slice (some ⟨gg,0,none⟩) (l.length+1) cap')) (ownAdd own gg t0) t0 e size (.slice (some ⟨gg,0,none⟩) (l.length+1) cap') (l++[x]) f ∧
  (∀ k,ownAdd own gg t0 k≠none→k < (w1.setCell ⟨bt,n*sz+j,none⟩ (.slice (some ⟨gg,0,none⟩) (l.length+1) cap')).heap.size):=by
 have hsz:wr.heap.size≤w1.heap.size:=Nat.le_trans hWs hgrow.size
 have hrlt:bt < wr.heap.size:=hold bt (by rw [hbt]; simp)
 have hgr:gg≠bt:=by
  intro e
  rcases hat with h | h
  ·have:=hv0 gg h; rw [e,hbt] at this; exact htt (Option.some.inj this).symm
  ·omega
 have hnr:some bt≠v0.ownBlock:=fun e=>by have:=hv0 bt e.symm; rw [hbt] at this; exact htt (Option.some.inj this).symm
 have hgo:∀ t,own gg=some t→t=t0:=by
  intro t ht
  rcases hat with h | h
  ·have:=hv0 gg h; rw [ht] at this; exact Option.some.inj this
  ·have:=hold gg (by rw [ht]; simp); omega
 have hblk:∀ k,k < wr.heap.size→some k≠v0.ownBlock→w1.heap[k]?=wr.heap[k]?:=fun k hk hne=>by rw [hgrow.block k (by omega) hne,hWb k hk]
 have hext:∀ k t,own k=some t→ownAdd own gg t0 k=some t:=by
  intro k t hk
  unfold ownAdd
  split
  ·subst_vars; rw [hgo t hk]
  ·exact hk
 have hL1:Row w1 own tt et sz (.slice (some ⟨bt,0,none⟩) L.length cap) L F:=hL.frame (fun b hb=>hblk b (hold b (by rw [hb]; simp)) (fun e=>by have:=hv0 b e.symm; rw [hb] at this; exact htt (Option.some.inj this).symm)) (fun _ h=>h)
 have hL2:=hL1.set2 hF hF' hy hj hfx hr
 refine ⟨⟨?_,?_,?_,?_,?_,hext,?_⟩,?_,hL2.frame (fun _ _=>rfl) (fun b hb=>hext b _ hb),?_,?_⟩
 ·show w1.os=_; rw [hgrow.os,hWo]
 ·show w1.tape=_; rw [hgrow.tape,hWt]
 ·show w1.output=_; rw [hgrow.output,hWp]
 ·simpa using hsz
 ·intro k hk hn
  have hkr:k≠bt:=fun e=>by rw [e,hbt] at hn; cases hn
  rw [heap_setCell_ne _ _ _ _ _ hkr]
  exact hblk k hk (fun e=>by have:=hv0 k e.symm; rw [hn] at this; cases this)
 ·intro k hk
  unfold ownAdd at hk
  split at hk
  ·subst_vars
   rcases hat with h | h
   ·left; rw [hv0 _ h]; simp
   ·right; omega
  ·exact .inl hk
 ·intro b t hb hne hne1
  have hbr:b≠bt:=fun e=>by rw [e,hbt] at hb; exact hne1 (Option.some.inj hb).symm
  rw [heap_setCell_ne _ _ _ _ _ hbr]
  exact hblk b (hold b (by rw [hb]; simp)) (fun e=>by have:=hv0 b e.symm; rw [hb] at this; exact hne (Option.some.inj this))
 ·obtain ⟨hl,ho⟩:=hown1
  refine ⟨⟨?_,?_⟩,?_⟩
  ·rw [List.flatMap_append,List.length_append] at *; simpa using hl
  ·rcases ho with ⟨h,_⟩ | ⟨b',c,d,e1,e2,e3,e4,e5,e6,e7⟩
   ·cases h
   ·simp only [Value.slice.injEq,Option.some.injEq,Addr.mk.injEq,and_true,true_and] at e1
    obtain ⟨rfl,rfl⟩:=e1
    refine .inr ⟨gg,cap',d,by simp,e2,?_,by simpa using e4,e5,e6,?_⟩
    ·rw [heap_setCell_ne _ _ _ _ _ hgr]; exact e3
    ·simpa using e7
  ·intro b hb
   cases hb
   simp [ownAdd]
 ·intro k hk
  unfold ownAdd at hk
  split at hk
  ·subst_vars; simpa using hlt
  ·have:=hold k hk; simp; omega
end Go.Proofs.Ytpbcplfpjcacfaa
namespace Go.Proofs.Ytpbcplfpjcacfaa
open Go.RowKit
set_option linter.unusedSimpArgs false
set_option maxRecDepth 100000
set_option maxHeartbeats 8000000
def SetPost (w:World) (r:Nat) (st:RS) (own:Own) (g:Gh) (vt vr ve:Value) (w':World):Prop :=
 ∃ own' vp',Mem w' r st own' g vp' vt vr ve∧Chg own w w' own'∧∀ c t,own c=some t→t≠(1,0,0,0)→t≠(2,0,0,0)→w'.heap[c]?=w.heap[c]?
theorem info171:(Try.prog.info? 183).map (fun i=>(i.zero,i.size,i.bytes))=some (some (.agg #[.int .i64 0,.int .i64 0,.int .i64 0,.int .i64 0]),4,32):=by kernel_rfl
theorem set_mem (r:Nat) (st:RS) (own:Own) (g:Gh) (vp vt vr ve:Value) (a b key v:Int) (w:World) (m:Mem w r st own g vp vt vr ve) (hpl:st.places.length < 4294967296) :
  Calls Try.prog 108 #[.pointer (some ⟨r,0,none⟩),.agg #[.int .i64 a,.int .i64 b],.int .i64 key,.int .i64 v] w fun e w'=>e=.returned (.tuple #[])∧SetPost w r (st.setP (a,b) key v) own g vt vr ve w':=by
 obtain ⟨i0,hi0,hz0,hs0,hb0⟩:=info_all info171
 have M:=m
 obtain ⟨ao,cap,rfl,hmax,hel⟩:=m.places.form len_placeC
 have hrlt:=m.old r (by rw [m.rootTag]; simp)
 have hr4:w.cell? ⟨r,3,none⟩=some (.slice ao st.places.length cap):=by rw [root_cell m.root]; rfl
 have MM:Hid (Mem w r st own g (.slice ao st.places.length cap) vt vr ve):=M
 unfold maxLen at hmax
 clear m M
 go_enter Try.func108,Try.ntmps108
 go_wp2_with fail
 go_loopw [8] (fun i wr=>∃ k:Nat,k≤st.places.length∧i=.int .i64 k∧Hid (st.places.take k++setIx (a,b) key v (st.places.drop k)=setIx (a,b) key v st.places)∧Below (w.heap.size+1) (w.alloc (.cells #[.int .i64 a,.int .i64 b] 25)) wr) (fun i _=>st.places.length - (intOf i).toNat)
 case atStart=>exact ⟨0,Nat.zero_le _,rfl,rfl,Below.refl _ _⟩
 case round =>
  obtain ⟨k,hk,rfl,Hl,hnx⟩:=hrel
  have hnz:=hnx.size
  simp only [World.size_alloc] at hnz
  have c4:wr.cell? ⟨r,3,none⟩=some (.slice ao st.places.length cap):=by rw [hnx.cell (p:=⟨r,3,none⟩) (by simp; omega),World.cell?_alloc_lt _ _ _ (by exact hrlt)]; exact hr4
  have x0:wr.cell? ⟨w.heap.size,0,none⟩=some (.int .i64 a):=by rw [hnx.cell (p:=⟨w.heap.size,0,none⟩) (by simp)]; simp
  have x1:wr.cell? ⟨w.heap.size,1,none⟩=some (.int .i64 b):=by rw [hnx.cell (p:=⟨w.heap.size,1,none⟩) (by simp)]; simp
  have hend0:Below w.heap.size w wr:=((Below.refl _ _).alloc (Nat.le_refl _) _).trans (hnx.mono (by omega))
  by_cases hlt:k < st.places.length
  ·obtain ⟨bt,rfl,hbo,hbt,hrg,hfz⟩:=hel k _ (List.getElem?_eq_getElem hlt)
   have gk:=List.getElem?_eq_getElem hlt
   generalize st.places[k]=t at hrg gk
   have Gk:Hid (st.places[k]?=some t):=gk
   clear gk
   have hrg':wr.rangeAt bt (k*4) (placeC t):=rangeAt_below (World.rangeAt_alloc hrg _) hnx (by omega)
   have y0:wr.cell? ⟨bt,k*4,none⟩=some (.int .i64 t.at_.1):=hrg' 0 _ rfl
   have y1:wr.cell? ⟨bt,k*4+1,none⟩=some (.int .i64 t.at_.2):=hrg' 1 _ rfl
   have y2:wr.cell? ⟨bt,k*4+2,none⟩=some (.int .i64 t.key):=hrg' 2 _ rfl
   have y3:wr.cell? ⟨bt,k*4+3,none⟩=some (.int .i64 t.value):=hrg' 3 _ rfl
   have zk:(k:Int) < (st.places.length:Int):=by omega
   have hfk:=hfz (k*4+3)
   clear hrg hrg' hel hfz
   have kne:=kin_some wr
   have k4:=kin_cell c4
   have kx0:=kin_cell x0
   have kx1:=kin_cell x1
   have ky0:=kin_cell y0
   have ky1:=kin_cell y1
   have ky2:=kin_cell y2
   by_cases he:t.at_=(a,b)
   ·have hs:sameL t.at_.1 t.at_.2 a b=true:=sameL_t he
    have He:Hid (t.at_=(a,b)):=he
    clear he
    by_cases hkey:t.key=key
    ·have hk2:(t.key == key)=true:=by simpa using hkey
     have Hk:Hid (t.key=key):=hkey
     clear hkey
     go_wp2_with fail
     refine wp_region_kin (by kernel_rfl) (by kernel_rfl) ?_
     repeat (first | go_big_quiet_step ((go_at_call 64; exact Calls.kin (sameLabel_is hs _))) | quiet_step ((go_at_call 64; exact Calls.kin (sameLabel_is hs _))))
     refine wpQuiet_nil ?_
     intro _ hw'
     obtain ⟨xq,hw''⟩:=hw'
     subst hw''
     have hend:Below w.heap.size w xq.w:=hend0.trans (xq.h.mono hend0.size)
     have z4:=k4 xq
     have z3:xq.w.cell? ⟨bt,k*4+3,none⟩=some (.int .i64 t.value):=kin_cell y3 xq
     have zf:xq.w.frozen? ⟨bt,k*4+3,none⟩=false:=by rw [hend.frozen (p:=⟨bt,k*4+3,none⟩) hbt]; exact hfk
     have Mq:Hid (Mem xq.w r st own g (.slice (some ⟨bt,0,none⟩) st.places.length cap) vt vr ve):=MM.out.below hend
     clear k4 kx0 kx1 ky0 ky1 ky2 hfk
     go_wp2
     refine bodyPost_ret (v:=.tuple #[]) (by simp [results,Try.results108,go_sem]) rfl ⟨rfl,own,.slice (some ⟨bt,0,none⟩) st.places.length cap,?_,(Chg.of_below hend).trans ⟨rfl,rfl,rfl,by simp,?_,fun _ _ h=>h,fun _ h=>.inl h⟩,?_⟩
     ·have P:=Mq.out
      have hpl':(st.setP (a,b) key v).places=st.places.set k ⟨t.at_,t.key,v⟩:=by
       have q:=Hl.out
       rw [drop_at Gk.out,setIx,if_pos ⟨He.out,Hk.out⟩] at q
       show setIx (a,b) key v st.places=_
       rw [← q,List.set_eq_take_append_cons_drop,if_pos hlt]
      have hrow:=P.places.set len_placeC (k:=k) (j:=3) (x:=t) (x':=⟨t.at_,t.key,v⟩) (u:=.int .i64 v) Gk.out (by decide) rfl
      have hne:∀ c t',own c=some t'→t'≠(2,0,0,0)→c≠bt:=fun c t' h1 h2 e=>by rw [e,hbo] at h1; exact h2 (Option.some.inj h1).symm
      exact {
       root:=by rw [heap_setCell_ne _ _ _ _ _ (hne r _ P.rootTag (by decide))]; exact P.root
       rootTag:=P.rootTag
       places:=by rw [hpl']; exact hrow
       txns:=P.txns.frame (fun c hc=>heap_setCell_ne _ _ _ _ _ (hne c _ hc (by decide))) (fun _ h=>h)
       recs:=P.recs.frame (fun c hc=>heap_setCell_ne _ _ _ _ _ (hne c _ hc (by decide))) (fun _ h=>h)
       ended:=P.ended.frame (fun c hc=>heap_setCell_ne _ _ _ _ _ (hne c _ hc (by decide))) (fun _ h=>h)
       olds:=fun t ht=>(P.olds t ht).frame (fun c hc=>heap_setCell_ne _ _ _ _ _ (hne c _ hc (by intro h; cases h))) (fun _ h=>h)
       puts:=fun t ht=>(P.puts t ht).frame (fun c hc=>heap_setCell_ne _ _ _ _ _ (hne c _ hc (by intro h; cases h))) (fun _ h=>h)
       told:=fun t ht hr=>(P.told t ht hr).frame (fun c hc=>heap_setCell_ne _ _ _ _ _ (hne c _ hc (by intro h; cases h))) (fun _ h=>h)
       toldV:=P.toldV
       old:=fun c hc=>by have:=P.old c hc; simpa using this }
     ·intro c hc hn
      exact heap_setCell_ne _ _ _ _ _ (fun e=>by rw [e,hbo] at hn; cases hn)
     ·intro c t' hc _ h2
      rw [heap_setCell_ne _ _ _ _ _ (fun e=>by rw [e,hbo] at hc; exact h2 (Option.some.inj hc).symm)]
      exact hend.block c (MM.out.old c (by rw [hc]; simp))
    ·have hk2:(t.key == key)=false:=by simpa using hkey
     have Hk:Hid (¬ t.key=key):=hkey
     clear hkey
     go_wp2_with fail
     refine wp_region_kin (by kernel_rfl) (by kernel_rfl) ?_
     repeat (first | go_big_quiet_step ((go_at_call 64; exact Calls.kin (sameLabel_is hs _))) | quiet_step ((go_at_call 64; exact Calls.kin (sameLabel_is hs _))))
     refine wpQuiet_nil ?_
     intro _ hw'
     obtain ⟨xq,hw''⟩:=hw'
     subst hw''
     have hon:Below (w.heap.size+1) (w.alloc (.cells #[.int .i64 a,.int .i64 b] 25)) xq.w:=hnx.trans (xq.h.mono hnz)
     go_wp2
     go_roundw
     case rel =>
      refine ⟨k+1,by omega,by go_num,?_,hon⟩
      have q:=Hl.out
      rw [drop_at Gk.out,setIx,if_neg (fun h=>Hk.out h.2)] at q
      rw [List.take_add_one,Gk.out,List.append_assoc]
      exact q
     case measure=>simp [intOf]; omega
   ·have hs:sameL t.at_.1 t.at_.2 a b=false:=sameL_f he
    have He:Hid (¬ t.at_=(a,b)):=he
    clear he
    go_wp2_with fail
    refine wp_region_kin (by kernel_rfl) (by kernel_rfl) ?_
    repeat (first | go_big_quiet_step ((go_at_call 64; exact Calls.kin (sameLabel_is hs _))) | quiet_step ((go_at_call 64; exact Calls.kin (sameLabel_is hs _))))
    refine wpQuiet_nil ?_
    intro _ hw'
    obtain ⟨xq,hw''⟩:=hw'
    subst hw''
    have hon:Below (w.heap.size+1) (w.alloc (.cells #[.int .i64 a,.int .i64 b] 25)) xq.w:=hnx.trans (xq.h.mono hnz)
    go_wp2
    go_roundw
    case rel =>
     refine ⟨k+1,by omega,by go_num,?_,hon⟩
     have q:=Hl.out
     rw [drop_at Gk.out,setIx,if_neg (fun h=>He.out h.1)] at q
     rw [List.take_add_one,Gk.out,List.append_assoc]
     exact q
    case measure=>simp [intOf]; omega
  ·have e:k=st.places.length:=by omega
   subst e
   have Mr:Hid (Mem wr r st own g (.slice ao st.places.length cap) vt vr ve):=MM.out.below hend0
   have hfr:wr.frozen? ⟨r,3,none⟩=false:=frozen_of_row wr r 3 _ _ Mr.out.root
   go_wp2_with fail
   have hS:(fun w':World=>w'.cell? ⟨r,3,none⟩=some (.slice ao st.places.length cap)∧w'.cell? ⟨w.heap.size,0,none⟩=some (.int .i64 a)∧w'.cell? ⟨w.heap.size,1,none⟩=some (.int .i64 b)) wr.drew:=⟨c4,x0,x1⟩
   refine wp_region_Z (z:=13) (S:=fun w'=>w'.cell? ⟨r,3,none⟩=some (.slice ao st.places.length cap)∧w'.cell? ⟨w.heap.size,0,none⟩=some (.int .i64 a)∧w'.cell? ⟨w.heap.size,1,none⟩=some (.int .i64 b)) (by kernel_rfl) ?_
   refine zT (i:=0) (v:=?v1) (by decide +kernel) rfl (fun _ _ _ h=>h) hS (.inl ⟨by rfl,?y1⟩) ?_
   case y1=>(rintro wz ⟨zs0,zs1,zs2⟩; go_simp<;>with_reducible rfl)
   simp only [Act.put,z1,z2,z3,z4,z5,z6]
   refine zT (i:=1) (v:=?v2) (by decide +kernel) rfl (fun _ _ _ h=>h) hS (.inl ⟨by rfl,?y2⟩) ?_
   case y2=>(rintro wz ⟨zs0,zs1,zs2⟩; go_simp<;>with_reducible rfl)
   simp only [Act.put,z1,z2,z3,z4,z5,z6]
   refine zT (i:=2) (v:=?v3) (by decide +kernel) rfl (fun _ _ _ h=>h) hS (.inl ⟨by rfl,?y3⟩) ?_
   case y3=>(rintro wz ⟨zs0,zs1,zs2⟩; go_simp<;>with_reducible rfl)
   simp only [Act.put,z1,z2,z3,z4,z5,z6]
   refine zT (i:=3) (v:=?v4) (by decide +kernel) rfl (fun _ _ _ h=>h) hS (.inl ⟨by rfl,?y4⟩) ?_
   case y4=>(rintro wz ⟨zs0,zs1,zs2⟩; go_simp<;>with_reducible rfl)
   simp only [Act.put,z1,z2,z3,z4,z5,z6]
   refine zT (i:=4) (v:=?v5) (by decide +kernel) rfl (fun _ _ _ h=>h) hS (.inl ⟨by rfl,?y5⟩) ?_
   case y5=>(rintro wz ⟨zs0,zs1,zs2⟩; go_simp<;>with_reducible rfl)
   simp only [Act.put,z1,z2,z3,z4,z5,z6]
   refine zT (i:=5) (v:=?v6) (by decide +kernel) rfl (fun _ _ _ h=>h) hS (.inl ⟨by rfl,?y6⟩) ?_
   case y6=>(rintro wz ⟨zs0,zs1,zs2⟩; go_simp<;>with_reducible rfl)
   simp only [Act.put,z1,z2,z3,z4,z5,z6]
   refine zT (i:=6) (v:=?v7) (by decide +kernel) rfl (fun _ _ _ h=>h) hS (.inl ⟨by rfl,?y7⟩) ?_
   case y7=>(rintro wz ⟨zs0,zs1,zs2⟩; go_simp<;>with_reducible rfl)
   simp only [Act.put,z1,z2,z3,z4,z5,z6]
   refine zT (i:=7) (v:=?v8) (by decide +kernel) rfl (fun _ _ _ h=>h) hS (.inl ⟨by rfl,?y8⟩) ?_
   case y8=>(rintro wz ⟨zs0,zs1,zs2⟩; go_simp<;>with_reducible rfl)
   simp only [Act.put,z1,z2,z3,z4,z5,z6]
   refine zT (i:=8) (v:=?v9) (by decide +kernel) rfl (fun _ _ _ h=>h) hS (.inl ⟨by rfl,?y9⟩) ?_
   case y9=>(rintro wz ⟨zs0,zs1,zs2⟩; go_simp<;>with_reducible rfl)
   simp only [Act.put,z1,z2,z3,z4,z5,z6]
   have hx3:(wr.alloc (.cells #[.int .i64 a,.int .i64 b,.int .i64 key,.int .i64 v] 183)).drew.cell? ⟨r,3,none⟩=some (.slice ao st.places.length cap):=by
    rw [World.cell?_drew,World.cell?_alloc_lt _ _ _ (by show r < _; omega)]; exact c4
   refine wpAnyZ_one (i:=9) (by decide +kernel) rfl (fun K hK=>?_)
   go_simp
   refine hK _ _ (fun _=>⟨hx3,?_,?_⟩) ?_
   ·rw [World.cell?_drew,World.cell?_alloc_lt _ _ _ (by show w.heap.size < wr.heap.size; omega)]; exact x0
   ·rw [World.cell?_drew,World.cell?_alloc_lt _ _ _ (by show w.heap.size < wr.heap.size; omega)]; exact x1
   refine wpAnyZ_one (i:=10) (by decide +kernel) rfl (fun K hK=>?_)
   refine step_append_lies _ (by rfl) _ _ _ (by rfl) 0 183 i0 _ 4 32 Try.underlying101 hi0 hz0 hs0 hb0 rfl (by omega) (.slice ao st.places.length cap) st.places.length (st.places.flatMap placeC) (by rfl) ((Mr.out.places.1.alloc _).drew)
    ⟨wr.heap.size,0,none⟩ 1 1 [.int .i64 a,.int .i64 b,.int .i64 key,.int .i64 v] (by rfl) (by rfl) (World.news_of_block (cs:=#[.int .i64 a,.int .i64 b,.int .i64 key,.int .i64 v]) (t:=183) (fr:=(0,0)) (heap_alloc_new wr _)) (by simp [Value.oneCell'])
    (by omega) (by unfold maxLen; omega) (by omega) (Nat.zero_le _) (wr.heap.size+1) (by simp) ?_
   intro gg cap' w1 hown1 hgrow hat hlt1
   simp only [Act.put,List.getElem_toArray,List.getElem_cons_zero,List.getElem_cons_succ,List.setIfInBounds_toArray,List.set_cons_zero,List.set_cons_succ]
   have hnb:∀ q,(Value.slice ao st.places.length cap).ownBlock=some q→own q=some (2,0,0,0):=Mr.out.places.2
   have hold:=MM.out.old
   have nr:(Value.slice ao st.places.length cap).ownBlock≠some r:=fun e=>by have:=hnb r e; rw [MM.out.rootTag] at this; cases this
   have nx:(Value.slice ao st.places.length cap).ownBlock≠some w.heap.size:=fun e=>by
    have:=hold w.heap.size (by rw [hnb _ e]; simp)
    omega
   have s3:w1.cell? ⟨r,3,none⟩=some (.slice ao st.places.length cap):=hgrow.cell hx3 (Ne.symm nr)
   have s0:w1.cell? ⟨w.heap.size,0,none⟩=some (.int .i64 a):=hgrow.cell (by rw [World.cell?_drew,World.cell?_alloc_lt _ _ _ (by show w.heap.size < wr.heap.size; omega)]; exact x0) (Ne.symm nx)
   have s1:w1.cell? ⟨w.heap.size,1,none⟩=some (.int .i64 b):=hgrow.cell (by rw [World.cell?_drew,World.cell?_alloc_lt _ _ _ (by show w.heap.size < wr.heap.size; omega)]; exact x1) (Ne.symm nx)
   refine hK _ _ (fun _=>⟨s3,s0,s1⟩) ?_
   refine wpAnyZ_one (i:=11) (by decide +kernel) rfl (fun K hK=>?_)
   go_simp
   refine hK _ _ (fun _=>⟨s3,s0,s1⟩) ?_
   refine wpAnyZ_one (i:=12) (by decide +kernel) rfl (fun K hK=>?_)
   go_simp
   refine hK _ _ (fun _=>⟨s3,s0,s1⟩) ?_
   have f3:w1.frozen? ⟨r,3,none⟩=false:=by
    rw [World.frozen?_of_block (hgrow.block r (by simp; omega) (Ne.symm nr))]
    rw [World.frozen?_drew,World.frozen?_alloc_past _ _ _ (by omega)]; exact hfr
   refine wpAnyZ_one (i:=13) (by decide +kernel) rfl (fun K hK=>?_)
   go_simp
   refine hK _ _ (fun h=>absurd rfl h) ?_
   refine wpAnyZ_done (by decide +kernel) ?_ _
   clear hK
   go_wp2
   go_end0
   refine ⟨rfl,?_⟩
   obtain ⟨hchg,hkeep,hroot',hrow',hold'⟩:=grow_root (W:=(wr.alloc (.cells #[.int .i64 a,.int .i64 b,.int .i64 key,.int .i64 v] 183)).drew) (j:=3) (H:=wr.heap.size+1) (x:=(⟨(a,b),key,v⟩:Plc)) (f:=placeC) Mr.out.root Mr.out.rootTag (by decide) Mr.out.old Mr.out.places.2
    (fun k hk=>Below.heap_alloc _ _ _ hk) (by simp) rfl rfl rfl hgrow hown1 hat (by omega) hlt1
   have hpl':(st.setP (a,b) key v).places=st.places++[⟨(a,b),key,v⟩]:=by
    have q:=Hl.out
    rw [List.take_length,List.drop_length,setIx] at q
    exact q.symm
   refine ⟨_,.slice (some ⟨gg,0,none⟩) (st.places.length+1) cap',?_,(Chg.of_below hend0).trans hchg,fun c t' hc h1 h2=>by rw [hkeep c t' hc h2 h1]; exact hend0.block c (MM.out.old c (by rw [hc]; simp))⟩
   have P:=Mr.out
   exact {
    root:=hroot'
    rootTag:=hchg.ext _ _ P.rootTag
    places:=by rw [hpl']; exact hrow'
    txns:=P.txns.frame (fun b hb=>hkeep b _ hb (by decide) (by decide)) (fun b hb=>hchg.ext b _ hb)
    recs:=P.recs.frame (fun b hb=>hkeep b _ hb (by decide) (by decide)) (fun b hb=>hchg.ext b _ hb)
    ended:=P.ended.frame (fun b hb=>hkeep b _ hb (by decide) (by decide)) (fun b hb=>hchg.ext b _ hb)
    olds:=fun t ht=>(P.olds t ht).frame (fun b hb=>hkeep b _ hb (by intro h; cases h) (by intro h; cases h)) (fun b hb=>hchg.ext b _ hb)
    puts:=fun t ht=>(P.puts t ht).frame (fun b hb=>hkeep b _ hb (by intro h; cases h) (by intro h; cases h)) (fun b hb=>hchg.ext b _ hb)
    told:=fun t ht hr=>(P.told t ht hr).frame (fun b hb=>hkeep b _ hb (by intro h; cases h) (by intro h; cases h)) (fun b hb=>hchg.ext b _ hb)
    toldV:=P.toldV
    old:=hold' }
theorem set_any (r:Nat) (st:RS) (own:Own) (a b key v:Int) (w:World) (hm:Rep w r st own) (hpl:st.places.length < 4294967296) :
  Calls Try.prog 108 #[.pointer (some ⟨r,0,none⟩),.agg #[.int .i64 a,.int .i64 b],.int .i64 key,.int .i64 v] w fun e w'=>e=.returned (.tuple #[])∧∃ own',Rep w' r (st.setP (a,b) key v) own'∧Chg own w w' own':=by
 obtain ⟨g,vp,vt,vr,ve,m⟩:=hm
 refine (set_mem r st own g vp vt vr ve a b key v w m hpl).mono ?_
 rintro e w' ⟨rfl,own',vp',h1,h2,_⟩
 exact ⟨rfl,own',⟨g,vp',vt,vr,ve,h1⟩,h2⟩
end Go.Proofs.Ytpbcplfpjcacfaa
