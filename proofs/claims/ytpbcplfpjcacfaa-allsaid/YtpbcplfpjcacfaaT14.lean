import Derived.Test.YtpbcplfpjcacfaaT13
namespace Go.Proofs.Ytpbcplfpjcacfaa
open Go.RowKit
set_option maxRecDepth 100000
set_option maxHeartbeats 8000000
theorem Chg.cell {own:Own} {w:World} {b j:Nat} {t:Tag} {v:Value} (h:own b=some t):Chg own w (w.setCell ⟨b,j,none⟩ v) own :=
 ⟨rfl,rfl,rfl,by simp,fun k _ hn=>heap_setCell_ne _ _ _ _ _ (fun e=>by rw [e,h] at hn; cases hn),fun _ _ h=>h,fun _ h=>.inl h⟩
theorem ownNew_ext {own:Own} {v:Value} {tag:Tag} (hv:∀ b,v.ownBlock=some b→own b=none):∀ k t,own k=some t→ownNew own v tag k=some t:=by
 intro k t hk
 unfold ownNew
 split
 ·rename_i h; rw [hv k h] at hk; cases hk
 ·exact hk
theorem Chg.retag {own own':Own} {w w':World} {v:Value} (tag:Tag) (h:Chg own w w' own') (hv:∀ b,v.ownBlock=some b→own' b=none) (hg:∀ b,v.ownBlock=some b→w.heap.size≤b):Chg own w w' (ownNew own' v tag) :=
 { h with
  ext:=fun k t hk=>ownNew_ext hv k t (h.ext k t hk)
  fresh:=fun k hk=>by
   unfold ownNew at hk
   split at hk
   ·rename_i e; exact .inr (hg k e)
   ·exact h.fresh k hk }
theorem Mem.retag {w:World} {r:Nat} {st:RS} {own:Own} {g:Gh} {vp vt vr ve v:Value} (tag:Tag) (P:Mem w r st own g vp vt vr ve) (hv:∀ b,v.ownBlock=some b→own b=none) (hl:∀ b,v.ownBlock=some b→b < w.heap.size):Mem w r st (ownNew own v tag) g vp vt vr ve:=by
 have hx:=ownNew_ext (tag:=tag) hv
 exact {
  root:=P.root
  rootTag:=hx _ _ P.rootTag
  places:=P.places.frame (fun _ _=>rfl) (fun b hb=>hx b _ hb)
  txns:=P.txns.frame (fun _ _=>rfl) (fun b hb=>hx b _ hb)
  recs:=P.recs.frame (fun _ _=>rfl) (fun b hb=>hx b _ hb)
  ended:=P.ended.frame (fun _ _=>rfl) (fun b hb=>hx b _ hb)
  olds:=fun t ht=>(P.olds t ht).frame (fun _ _=>rfl) (fun b hb=>hx b _ hb)
  puts:=fun t ht=>(P.puts t ht).frame (fun _ _=>rfl) (fun b hb=>hx b _ hb)
  told:=fun t ht hr=>(P.told t ht hr).frame (fun _ _=>rfl) (fun b hb=>hx b _ hb)
  toldV:=P.toldV
  old:=fun k hk=>by
   unfold ownNew at hk
   split at hk
   ·rename_i e; exact hl k e
   ·exact P.old k hk }
theorem Mem.rec_off {w:World} {r:Nat} {st:RS} {own:Own} {g:Gh} {vp vt ve:Value} {br cap j:Nat} {c:Rc}
  (P:Mem w r st own g vp vt (.slice (some ⟨br,0,none⟩) st.recs.length cap) ve) (hj:st.recs[j]?=some c) :
  Mem (w.setCell ⟨br,j*10+8,none⟩ (.bool false)) r (st.offAt j c) own g vp vt (.slice (some ⟨br,0,none⟩) st.recs.length cap) ve:=by
 have hbo:own br=some (4,0,0,0):=P.recs.2 br rfl
 have k:∀ c t',own c=some t'→t'≠(4,0,0,0)→(w.setCell ⟨br,j*10+8,none⟩ (.bool false)).heap[c]?=w.heap[c]?:=fun c t' hc hne=>heap_setCell_ne _ _ _ _ _ (fun e=>by rw [e,hbo] at hc; exact hne (Option.some.inj hc).symm)
 exact {
  root:=by rw [k r _ P.rootTag (by decide)]; exact P.root
  rootTag:=P.rootTag
  places:=P.places.frame (fun c hc=>k c _ hc (by decide)) (fun _ h=>h)
  txns:=P.txns.frame (fun c hc=>k c _ hc (by decide)) (fun _ h=>h)
  recs:=P.recs.set len_recC (k:=j) (j:=8) (x:=c) (x':=c.off) (u:=.bool false) hj (by decide) rfl
  ended:=P.ended.frame (fun c hc=>k c _ hc (by decide)) (fun _ h=>h)
  olds:=fun u hu=>(P.olds u hu).frame (fun c hc=>k c _ hc (by intro h; cases h)) (fun _ h=>h)
  puts:=fun u hu=>(P.puts u hu).frame (fun c hc=>k c _ hc (by intro h; cases h)) (fun _ h=>h)
  told:=fun u hu hr=>(P.told u hu hr).frame (fun c hc=>k c _ hc (by intro h; cases h)) (fun _ h=>h)
  toldV:=P.toldV
  old:=fun c hc=>by have:=P.old c hc; simpa using this }
def tellW (w:World) (bt n:Nat) (a:Ans) (v:Value):World :=
 (((w.setCell ⟨bt,n*19+16,none⟩ (.int .i64 a.code)).setCell ⟨bt,n*19+17,none⟩ (.int .i64 a.why)).setCell ⟨bt,n*19+18,none⟩ v).setCell ⟨bt,n*19+15,none⟩ (.bool true)
theorem tellW_heap {w:World} {bt n:Nat} {a:Ans} {v:Value} {k:Nat} (h:k≠bt):(tellW w bt n a v).heap[k]?=w.heap[k]?:=by
 unfold tellW
 rw [heap_setCell_ne _ _ _ _ _ h,heap_setCell_ne _ _ _ _ _ h,heap_setCell_ne _ _ _ _ _ h,heap_setCell_ne _ _ _ _ _ h]
theorem tellW_chg {own:Own} {w:World} {bt n:Nat} {a:Ans} {v:Value} {t:Tag} (h:own bt=some t):Chg own w (tellW w bt n a v) own :=
 (((Chg.cell h).trans (Chg.cell h)).trans (Chg.cell h)).trans (Chg.cell h)
theorem Mem.tell {w:World} {r:Nat} {st:RS} {own:Own} {g:Gh} {vp vr ve v:Value} {bt cap n:Nat} {t:Tx} {a:Ans}
  (P:Mem w r st own g vp (.slice (some ⟨bt,0,none⟩) st.txns.length cap) vr ve) (hu:st.uniq) (hn:st.txns[n]?=some t) (hrow:Row w own (8,t.who) 94 2 v a.items itemV) :
  Mem (tellW w bt n a v) r { st with txns:=st.txns.set n { t with ready:=true,told:=a } } own (gSet g t.who ((g t.who).1,(g t.who).2.1,v)) vp (.slice (some ⟨bt,0,none⟩) st.txns.length cap) vr ve:=by
 have hbo:own bt=some (3,0,0,0):=P.txns.2 bt rfl
 have k:∀ c t',own c=some t'→t'≠(3,0,0,0)→(tellW w bt n a v).heap[c]?=w.heap[c]?:=fun c t' hc hne=>tellW_heap (fun e=>by rw [e,hbo] at hc; exact hne (Option.some.inj hc).symm)
 have hlt:n < st.txns.length:=(List.getElem?_eq_some_iff.1 hn).1
 have split:∀ u∈st.txns.set n { t with ready:=true,told:=a },(u={ t with ready:=true,told:=a })∨(u∈st.txns∧u.who≠t.who):=by
  intro u hm
  obtain ⟨m,hm⟩:=List.mem_iff_getElem?.1 hm
  by_cases hmn:m=n
  ·subst hmn
   rw [List.getElem?_set_self hlt] at hm
   left; exact (Option.some.inj hm).symm
  ·rw [List.getElem?_set_ne (Ne.symm hmn)] at hm
   right; exact ⟨List.mem_of_getElem? hm,fun e=>hmn (hu m n u t hm hn e)⟩
 have htx:Row (tellW w bt n a v) own (3,0,0,0) 162 19 (.slice (some ⟨bt,0,none⟩) st.txns.length cap) (st.txns.set n { t with ready:=true,told:=a }) (txnC (gSet g t.who ((g t.who).1,(g t.who).2.1,v))):=by
  obtain ⟨t1,ht1⟩:∃ t1:Tx,t1={ t with told:={ t.told with code:=a.code } }:=⟨_,rfl⟩
  obtain ⟨t2,ht2⟩:∃ t2:Tx,t2={ t with told:={ t.told with code:=a.code,why:=a.why } }:=⟨_,rfl⟩
  obtain ⟨t3,ht3⟩:∃ t3:Tx,t3={ t with told:=a }:=⟨_,rfl⟩
  have h1:=P.txns.set (len_txnC g) (k:=n) (j:=16) (x:=t) (x':=t1) (u:=.int .i64 a.code) hn (by decide) (by rw [ht1]; simp [txnC,stepC])
  rw [show st.txns.length=(st.txns.set n t1).length by simp] at h1
  have h2:=h1.set (len_txnC g) (k:=n) (j:=17) (x:=t1) (x':=t2) (u:=.int .i64 a.why) (by rw [List.getElem?_set_self hlt]) (by decide) (by rw [ht1,ht2]; simp [txnC,stepC])
  rw [List.set_set,show (st.txns.set n t1).length=(st.txns.set n t2).length by simp] at h2
  have h3:=h2.set2 (len_txnC g) (f':=txnC (gSet g t.who ((g t.who).1,(g t.who).2.1,v))) (len_txnC _) (k:=n) (j:=18) (x:=t2) (x':=t3) (u:=v) (by rw [List.getElem?_set_self hlt]) (by decide) (by rw [ht2,ht3]; simp [txnC,stepC,gSet_same]) (fun m y hm hne=>by
   rw [List.getElem?_set_ne (Ne.symm hne)] at hm
   exact txnC_other g _ (fun e=>hne (hu m n y t hm hn e)))
  rw [List.set_set,show (st.txns.set n t2).length=(st.txns.set n t3).length by simp] at h3
  have h4:=h3.set (len_txnC _) (k:=n) (j:=15) (x:=t3) (x':={ t with ready:=true,told:=a }) (u:=.bool true) (by rw [List.getElem?_set_self hlt]) (by decide) (by rw [ht3]; simp [txnC,stepC])
  rw [List.set_set,show (st.txns.set n t3).length=st.txns.length by simp] at h4
  exact h4
 obtain ⟨ao,cp,hvs,_,_⟩:=hrow.form len_itemC
 exact {
  root:=by rw [k r _ P.rootTag (by decide)]; exact P.root
  rootTag:=P.rootTag
  places:=P.places.frame (fun c hc=>k c _ hc (by decide)) (fun _ h=>h)
  txns:=htx
  recs:=P.recs.frame (fun c hc=>k c _ hc (by decide)) (fun _ h=>h)
  ended:=P.ended.frame (fun c hc=>k c _ hc (by decide)) (fun _ h=>h)
  olds:=fun u hu=>by
   rcases split u hu with rfl | ⟨h1,h2⟩
   ·simp only [gSet_same]; exact (P.olds t (List.mem_of_getElem? hn)).frame (fun c hc=>k c _ hc (by intro h; cases h)) (fun _ h=>h)
   ·rw [gSet_other g _ h2]; exact (P.olds u h1).frame (fun c hc=>k c _ hc (by intro h; cases h)) (fun _ h=>h)
  puts:=fun u hu=>by
   rcases split u hu with rfl | ⟨h1,h2⟩
   ·simp only [gSet_same]; exact (P.puts t (List.mem_of_getElem? hn)).frame (fun c hc=>k c _ hc (by intro h; cases h)) (fun _ h=>h)
   ·rw [gSet_other g _ h2]; exact (P.puts u h1).frame (fun c hc=>k c _ hc (by intro h; cases h)) (fun _ h=>h)
  told:=fun u hu hr=>by
   rcases split u hu with rfl | ⟨h1,h2⟩
   ·simp only [gSet_same]; exact hrow.frame (fun c hc=>k c _ hc (by intro h; cases h)) (fun _ h=>h)
   ·rw [gSet_other g _ h2]; exact (P.told u h1 hr).frame (fun c hc=>k c _ hc (by intro h; cases h)) (fun _ h=>h)
  toldV:=fun u hu=>by
   rcases split u hu with rfl | ⟨h1,h2⟩
   ·simp only [gSet_same]; rw [hvs]; rfl
   ·rw [gSet_other g _ h2]; exact P.toldV u h1
  old:=fun c hc=>by have:=P.old c hc; simpa [tellW] using this }
theorem Rep.tell {own own1:Own} {w0 w1 wB:World} {r:Nat} {st:RS} {n:Nat} {t:Tx} {a:Ans} {v:Value} {g:Gh} {vp vr ve:Value} {bt cap:Nat}
  (P:Mem wB r st own1 g vp (.slice (some ⟨bt,0,none⟩) st.txns.length cap) vr ve) (hC:Chg own w0 w1 own1) (hB:Below w1.heap.size w1 wB) (hu:st.uniq) (hn:st.txns[n]?=some t)
  (hrow:w1.ownsRow w0.heap.size 94 2 v a.items.length (itemsV a.items)) (hv:∀ b,v.ownBlock=some b→own1 b=none) :
  Goes own w0 (tellW wB bt n a v) r { st with txns:=st.txns.set n { t with ready:=true,told:=a } }:=by
 have hl:∀ b,v.ownBlock=some b→b < wB.heap.size:=fun b hb=>Nat.lt_of_lt_of_le (hrow.lt b hb).2 hB.size
 have hR:Row wB (ownNew own1 v (8,t.who)) (8,t.who) 94 2 v a.items itemV:=⟨ownsRow_below (ownsRow_lower hrow (Nat.zero_le _)) hB,fun b hb=>by simp [ownNew,hb]⟩
 have Q:=(P.retag (8,t.who) hv hl).tell hu hn hR
 have hC1:Chg own w0 wB (ownNew own1 v (8,t.who)):=(hC.trans (Chg.of_below hB)).retag (8,t.who) hv (fun b hb=>(hrow.lt b hb).1)
 exact ⟨_,⟨_,_,_,_,_,Q⟩,hC1.trans (tellW_chg (ownNew_ext hv _ _ (P.txns.2 bt rfl)))⟩
section
variable {P:Program} {ops:Array Oper} {Q:Exit→Act→World→Prop} {md:Region.Mode} {S:World→Prop} {z:Nat}
theorem wpAnyZ_two {i j:Nat} {oi oj:Oper} {fuel:Nat} {listed:Array Bool} {a:Act} {w:World} (hr:Region.ready md ops listed=[i,j]) (hoi:ops[i]?=some oi) (hoj:ops[j]?=some oj)
  (h:∀ K':Act→World→Prop,Shut (∀ a w,(i≠z→S w)→wpAnyZ P md ops Q S z fuel (listed.setIfInBounds i true) a w→K' a w)→if Region.wanted oi (yielded ops a.tmps)=true then Oper.wp P oi a w K' Q else K' (a.put oi.dst undef) w)
  (h':∀ K':Act→World→Prop,Shut (∀ a w,(j≠z→S w)→wpAnyZ P md ops Q S z fuel (listed.setIfInBounds j true) a w→K' a w)→if Region.wanted oj (yielded ops a.tmps)=true then Oper.wp P oj a w K' Q else K' (a.put oj.dst undef) w) :
  wpAnyZ P md ops Q S z (fuel+1) listed a w :=
 ⟨fun h0=>by (rw [hr] at h0; cases h0),fun k hk=>by
  rw [hr] at hk
  rcases List.mem_cons.1 hk with rfl | hk
  ·exact wpOp_step hoi (fun K' hK=>h K' (fun a w hS hW=>hK a w ⟨hS,hW⟩))
  ·rcases List.mem_cons.1 hk with rfl | hk
   ·exact wpOp_step hoj (fun K' hK=>h' K' (fun a w hS hW=>hK a w ⟨hS,hW⟩))
   ·cases hk⟩
end
theorem step_stored {w:World} {g ty:Nat} {x0 x1 x2 x3 x4 x5 x6 x7 x8:Value} (a b c d e f h i j:Value) (hg:w.heap[g]?=some (.cells #[x0,x1,x2,x3,x4,x5,x6,x7,x8] ty (0,0))) :
  (((((((((w.setCell ⟨g,0,none⟩ a).setCell ⟨g,1,none⟩ b).setCell ⟨g,2,none⟩ c).setCell ⟨g,3,none⟩ d).setCell ⟨g,4,none⟩ e).setCell ⟨g,5,none⟩ f).setCell ⟨g,6,none⟩ h).setCell ⟨g,7,none⟩ i).setCell ⟨g,8,none⟩ j).heap[g]?=some (.cells #[a,b,c,d,e,f,h,i,j] ty (0,0)):=by
 have h1:=heap_setCell_same w g 0 _ _ a hg
 have h2:=heap_setCell_same _ g 1 _ _ b h1
 have h3:=heap_setCell_same _ g 2 _ _ c h2
 have h4:=heap_setCell_same _ g 3 _ _ d h3
 have h5:=heap_setCell_same _ g 4 _ _ e h4
 have h6:=heap_setCell_same _ g 5 _ _ f h5
 have h7:=heap_setCell_same _ g 6 _ _ h h6
 have h8:=heap_setCell_same _ g 7 _ _ i h7
 have h9:=heap_setCell_same _ g 8 _ _ j h8
 simpa using h9
theorem step9_cells {w:World} {g ty:Nat} {x0 x1 x2 x3 x4 x5 x6 x7 x8:Value} (h:w.heap[g]?=some (.cells #[x0,x1,x2,x3,x4,x5,x6,x7,x8] ty (0,0))) :
  w.cell? ⟨g,0,none⟩=some x0∧w.cell? ⟨g,1,none⟩=some x1∧w.cell? ⟨g,2,none⟩=some x2∧w.cell? ⟨g,3,none⟩=some x3∧w.cell? ⟨g,4,none⟩=some x4∧w.cell? ⟨g,5,none⟩=some x5∧w.cell? ⟨g,6,none⟩=some x6∧w.cell? ⟨g,7,none⟩=some x7∧w.cell? ⟨g,8,none⟩=some x8∧w.frozen? ⟨g,0,none⟩=false∧w.frozen? ⟨g,1,none⟩=false∧w.frozen? ⟨g,2,none⟩=false∧w.frozen? ⟨g,3,none⟩=false∧w.frozen? ⟨g,4,none⟩=false∧w.frozen? ⟨g,5,none⟩=false∧w.frozen? ⟨g,6,none⟩=false∧w.frozen? ⟨g,7,none⟩=false∧w.frozen? ⟨g,8,none⟩=false:=by
 refine ⟨?_,?_,?_,?_,?_,?_,?_,?_,?_,frozen_of_row w g 0 _ _ h,frozen_of_row w g 1 _ _ h,frozen_of_row w g 2 _ _ h,frozen_of_row w g 3 _ _ h,frozen_of_row w g 4 _ _ h,frozen_of_row w g 5 _ _ h,frozen_of_row w g 6 _ _ h,frozen_of_row w g 7 _ _ h,frozen_of_row w g 8 _ _ h⟩
 all_goals (rw [cell_of_row w g _ _ _ (0,0) h]; rfl)
end Go.Proofs.Ytpbcplfpjcacfaa
