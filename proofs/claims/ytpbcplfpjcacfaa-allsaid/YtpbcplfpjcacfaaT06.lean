import Derived.Test.YtpbcplfpjcacfaaT04
namespace Go.Proofs.Ytpbcplfpjcacfaa
open Go.RowKit
set_option linter.unusedSimpArgs false
set_option maxRecDepth 100000
set_option maxHeartbeats 8000000
theorem Mem.puts_app {wr W w1:World} {r:Nat} {st:RS} {own:Own} {g:Gh} {vp vr ve:Value} {bt cap n gg cap' H:Nat} {t:Tx} {o:Int}
  (P:Mem wr r st own g vp (.slice (some ⟨bt,0,none⟩) st.txns.length cap) vr ve) (hu:st.uniq) (hn:st.txns[n]?=some t)
  (hWb:∀ k,k < wr.heap.size→W.heap[k]?=wr.heap[k]?) (hWs:wr.heap.size≤W.heap.size) (hWo:W.os=wr.os) (hWt:W.tape=wr.tape) (hWp:W.output=wr.output)
  (hgrow:W.grownBy w1 (g t.who).2.1.ownBlock) (hown1:w1.ownsRow 0 3 1 (.slice (some ⟨gg,0,none⟩) (t.puts.length+1) cap') (t.puts.length+1) (t.puts.flatMap (fun n=>[Value.int .i64 n])++[Value.int .i64 o]))
  (hat:(g t.who).2.1.ownBlock=some gg∨gg=H) (hH:wr.heap.size≤H) (hlt:gg < w1.heap.size) :
  ∃ own',Rep (w1.setCell ⟨bt,n*19+5,none⟩ (.slice (some ⟨gg,0,none⟩) (t.puts.length+1) cap')) r { st with txns:=st.txns.set n { t with puts:=t.puts++[o] } } own' ∧
   Chg own wr (w1.setCell ⟨bt,n*19+5,none⟩ (.slice (some ⟨gg,0,none⟩) (t.puts.length+1) cap')) own':=by
 have hmem:t∈st.txns:=List.mem_of_getElem? hn
 have hro:=P.puts t hmem
 obtain ⟨hchg,hkeep,hrowL,hrowO,hold'⟩:=grow_txn (t0:=(7,t.who)) (F':=txnC (gSet g t.who ((g t.who).1,.slice (some ⟨gg,0,none⟩) (t.puts.length+1) cap',(g t.who).2.2))) (y':={ t with puts:=t.puts++[o] }) (j:=5) (n:=n) (x:=o) (f:=fun n=>[Value.int .i64 n])
  P.txns (len_txnC g) (len_txnC _) hn (by decide) (P.txns.2 bt rfl) (by intro h; cases h)
  (by simp [txnC,gSet_same,stepC]) (fun m y hm hne=>txnC_other g _ (fun e=>hne (hu m n y t hm hn e)))
  P.old hro.2 hWb hWs hWo hWt hWp hgrow hown1 hat hH hlt
 refine ⟨_,⟨gSet g t.who ((g t.who).1,.slice (some ⟨gg,0,none⟩) (t.puts.length+1) cap',(g t.who).2.2),vp,.slice (some ⟨bt,0,none⟩) st.txns.length cap,vr,ve,?_⟩,hchg⟩
 have split:∀ u∈st.txns.set n { t with puts:=t.puts++[o] },(u={ t with puts:=t.puts++[o] })∨(u∈st.txns∧u.who≠t.who):=by
  intro u hm
  obtain ⟨m,hm⟩:=List.mem_iff_getElem?.1 hm
  by_cases hmn:m=n
  ·subst hmn
   have hlt':m < st.txns.length:=(List.getElem?_eq_some_iff.1 hn).1
   rw [List.getElem?_set_self hlt'] at hm
   left; exact (Option.some.inj hm).symm
  ·rw [List.getElem?_set_ne (Ne.symm hmn)] at hm
   right; exact ⟨List.mem_of_getElem? hm,fun e=>hmn (hu m n u t hm hn e)⟩
 exact {
  root:=by rw [hkeep r _ P.rootTag (by intro h; cases h) (by decide)]; exact P.root
  rootTag:=hchg.ext _ _ P.rootTag
  places:=P.places.frame (fun b hb=>hkeep b _ hb (by intro h; cases h) (by decide)) (fun b hb=>hchg.ext b _ hb)
  txns:=by
   have e:(st.txns.set n { t with puts:=t.puts++[o] }).length=st.txns.length:=by simp
   exact hrowL
  recs:=P.recs.frame (fun b hb=>hkeep b _ hb (by intro h; cases h) (by decide)) (fun b hb=>hchg.ext b _ hb)
  ended:=P.ended.frame (fun b hb=>hkeep b _ hb (by intro h; cases h) (by decide)) (fun b hb=>hchg.ext b _ hb)
  olds:=fun u hm=>by
   rcases split u hm with rfl | ⟨hm',hw⟩
   ·simp only [gSet_same]; exact (P.olds t hmem).frame (fun b hb=>hkeep b _ hb (by intro h; cases h) (by intro h; cases h)) (fun b hb=>hchg.ext b _ hb)
   ·rw [gSet_other g _ hw]
    exact (P.olds u hm').frame (fun b hb=>hkeep b _ hb (by intro h; cases h) (by intro h; cases h)) (fun b hb=>hchg.ext b _ hb)
  puts:=fun u hm=>by
   rcases split u hm with rfl | ⟨hm',hw⟩
   ·simp only [gSet_same]; exact hrowO
   ·rw [gSet_other g _ hw]
    exact (P.puts u hm').frame (fun b hb=>hkeep b _ hb (by intro h; exact hw (by injection h)) (by intro h; cases h)) (fun b hb=>hchg.ext b _ hb)
  told:=fun u hm hr=>by
   rcases split u hm with rfl | ⟨hm',hw⟩
   ·simp only [gSet_same]; exact (P.told t hmem hr).frame (fun b hb=>hkeep b _ hb (by intro h; cases h) (by intro h; cases h)) (fun b hb=>hchg.ext b _ hb)
   ·rw [gSet_other g _ hw]
    exact (P.told u hm' hr).frame (fun b hb=>hkeep b _ hb (by intro h; cases h) (by intro h; cases h)) (fun b hb=>hchg.ext b _ hb)
  toldV:=fun u hm=>by
   rcases split u hm with rfl | ⟨hm',hw⟩
   ·simp only [gSet_same]; exact P.toldV t hmem
   ·rw [gSet_other g _ hw]; exact P.toldV u hm'
  old:=hold' }
theorem infoInt:(Try.prog.info? 3).map (fun i=>(i.zero,i.size,i.bytes))=some (some (.int .i64 0),1,8):=by kernel_rfl
theorem takenTo_hit {st:RS} {a:Lab} {n:Nat} (h:st.taken a (n:Int)=true):st.takenTo a (n+1)=st.takenTo a n+1:=by
 simp [RS.takenTo,List.range_succ,List.filter_append,h]
theorem takenTo_miss {st:RS} {a:Lab} {n:Nat} (h:st.taken a (n:Int)=false):st.takenTo a (n+1)=st.takenTo a n:=by
 simp [RS.takenTo,List.range_succ,List.filter_append,h]
theorem takenTo_le (st:RS) (a:Lab) (n:Nat):st.takenTo a n≤n:=by
 have:=List.length_filter_le (fun k:Nat=>st.taken a (k:Int)) (List.range n)
 simpa [RS.takenTo] using this
theorem writeT_uniq {st:RS} {n:Nat} {t:Tx} (hn:st.txns[n]?=some t) (hu:st.uniq) (key v:Int):(st.writeT n t key v).uniq:=by
 unfold RS.uniq
 rw [writeT_txns hn]
 exact uniq_set hn (wrote_who st t key) hu
theorem works_put (r:Nat) (st:RS) (own:Own) (x:Stp) (n:Nat) (t:Tx) (w:World) (hm:Rep w r st own) (hu:st.uniq) (hn:st.txns[n]?=some t) (ht:t.who=x.who) (hpl:st.places.length < 4294967296) (hol:t.olds.length < 4294967296) (hpu:t.puts.length < 4398046511104) (hop:x.op=4) :
  Calls Try.prog 112 #[.pointer (some ⟨r,0,none⟩),stepV x] w fun e w' =>
   (((!st.taken x.at_ x.key && decide (st.k≤st.takenTo x.at_ 16))=true∧e=.returned (ansV 4 0 (.slice none 0 0))∧Rep w' r st own∧Below w.heap.size w w') ∨
    ((!st.taken x.at_ x.key && decide (st.k≤st.takenTo x.at_ 16))=false∧e=.returned (ansV 0 0 (.slice none 0 0))∧∃ own',Rep w' r (st.putT n t x.key x.value) own'∧Chg own w w' own')):=by
 obtain ⟨i0,hi0,hz0,hs0,hb0⟩:=info_all infoInt
 obtain ⟨xw,xop,xa,xk,xt,xv⟩:=x
 simp only at hop ht ⊢
 subst hop
 have HL:Hid (st.live (xw.1,xw.2.1,xw.2.2)=(n:Int)):=live_at hn ht hu
 have hol0:∀ k,own k≠none→k < w.heap.size:=by obtain ⟨g,vp,vt,vr,ve,m⟩:=hm; exact m.old
 have hno:∀ k,w.heap.size≤k→own k=none:=fun k hk=>by
  cases hq:own k with
  | none=>rfl
  | some t=>have:=hol0 k (by rw [hq]; simp); omega
 have Hn:Hid (st.txns[n]?=some t):=hn
 have Ht:Hid (t.who=xw):=ht
 have Hno:Hid (∀ k,w.heap.size≤k→own k=none):=hno
 clear hn ht hno hol0
 unfold stepV ansV
 go_enter Try.func112,Try.ntmps112
 go_wp2_with fail
 have hA:Below w.heap.size w ((w.alloc (.cells #[.int .i64 xw.1,.int .i64 xw.2.1,.int .i64 xw.2.2,.int .i64 4,.int .i64 xa.1,.int .i64 xa.2,.int .i64 xk,.int .i64 xt,.int .i64 xv] 30)).alloc (.cells #[.int .i64 0,.int .i64 0,.slice none 0 0] 66)):=below2r
 refine (live_any r st own xw.1 xw.2.1 xw.2.2 _ (hm.below hA)).mono ?_
 rintro e w1 ⟨rfl,hb1⟩
 rw [HL.out]
 have hB1:Below w.heap.size w w1:=hA.trans (hb1.mono hA.size)
 have hz1:w.heap.size+2≤w1.heap.size:=by have:=hb1.size; simp at this; omega
 have hX:w1.heap[w.heap.size]?=some (.cells #[.int .i64 xw.1,.int .i64 xw.2.1,.int .i64 xw.2.2,.int .i64 4,.int .i64 xa.1,.int .i64 xa.2,.int .i64 xk,.int .i64 xt,.int .i64 xv] 30 (0,0)):=by
  rw [hb1.block _ (by simp; omega),Below.heap_alloc _ _ _ (by simp)]; exact heap_alloc_new w _
 have hR:w1.heap[w.heap.size+1]?=some (.cells #[.int .i64 0,.int .i64 0,.slice none 0 0] 66 (0,0)):=by
  rw [hb1.block _ (by simp)]
  have:=heap_alloc_new (w.alloc (.cells #[.int .i64 xw.1,.int .i64 xw.2.1,.int .i64 xw.2.2,.int .i64 4,.int .i64 xa.1,.int .i64 xa.2,.int .i64 xk,.int .i64 xt,.int .i64 xv] 30)) (.cells #[.int .i64 0,.int .i64 0,.slice none 0 0] 66 (0,0))
  simpa using this
 have HX:Hid (w1.heap[w.heap.size]?=some (.cells #[.int .i64 xw.1,.int .i64 xw.2.1,.int .i64 xw.2.2,.int .i64 4,.int .i64 xa.1,.int .i64 xa.2,.int .i64 xk,.int .i64 xt,.int .i64 xv] 30 (0,0))):=hX
 have HR:Hid (w1.heap[w.heap.size+1]?=some (.cells #[.int .i64 0,.int .i64 0,.slice none 0 0] 66 (0,0))):=hR
 obtain ⟨c0,c1,c2,c3,c4,c5,c6,c7,c8⟩:=step_cells (x:=⟨xw,4,xa,xk,xt,xv⟩) hX
 simp only at c0 c1 c2 c3 c4 c5 c6 c7 c8
 have hm1:=hm.below hB1
 clear hb1 hA hX hR
 go_wp2_with fail
 go_loopw [6,7] (fun cn i wr=>∃ k:Nat,k≤16∧i=.int .i64 k∧cn=.int .i64 (st.takenTo xa k)∧Below w1.heap.size w1 wr) (fun _ i _=>16 - (intOf i).toNat)
 case atStart=>exact ⟨0,Nat.zero_le _,rfl,rfl,Below.refl _ _⟩
 case round =>
  obtain ⟨k,hk,rfl,rfl,hnx⟩:=hrel
  have d4:=cell_later hnx c4
  have d5:=cell_later hnx c5
  have hle:=takenTo_le st xa k
  have hmr:=hm1.below hnx
  by_cases hlt:k < 16
  ·cases hs:st.taken xa (k:Int)
   ·have Hs:Hid (st.takenTo xa (k+1)=st.takenTo xa k):=takenTo_miss hs
    go_wp2_with fail
    refine (taken_any r st own xa.1 xa.2 k _ hmr).mono ?_
    rintro e w2 ⟨rfl,hb2⟩
    rw [show st.taken (xa.1,xa.2) (k:Int)=false from hs]
    go_wp2
    go_roundw
    case rel=>exact ⟨k+1,by omega,by go_num,by rw [Hs.out],hnx.trans (hb2.mono hnx.size)⟩
    case measure=>simp [intOf]; omega
   ·have Hs:Hid (st.takenTo xa (k+1)=st.takenTo xa k+1):=takenTo_hit hs
    go_wp2_with fail
    refine (taken_any r st own xa.1 xa.2 k _ hmr).mono ?_
    rintro e w2 ⟨rfl,hb2⟩
    rw [show st.taken (xa.1,xa.2) (k:Int)=true from hs]
    go_wp2
    go_roundw
    case rel=>exact ⟨k+1,by omega,by go_num,by rw [Hs.out]; go_num,hnx.trans (hb2.mono hnx.size)⟩
    case measure=>simp [intOf]; omega
  ·have e:k=16:=by omega
   subst e
   have d6:=cell_later hnx c6
   have d8:=cell_later hnx c8
   have hBr:Below w.heap.size w wr:=hB1.trans (hnx.mono (by omega))
   have HXr:Hid (wr.heap[w.heap.size]?=some (.cells #[.int .i64 xw.1,.int .i64 xw.2.1,.int .i64 xw.2.2,.int .i64 4,.int .i64 xa.1,.int .i64 xa.2,.int .i64 xk,.int .i64 xt,.int .i64 xv] 30 (0,0))):=(hnx.block _ (by omega)).trans HX.out
   have HRr:Hid (wr.heap[w.heap.size+1]?=some (.cells #[.int .i64 0,.int .i64 0,.slice none 0 0] 66 (0,0))):=(hnx.block _ (by omega)).trans HR.out
   have hzr:w.heap.size+2≤wr.heap.size:=by have:=hnx.size; omega
   clear c0 c1 c2 c3 c4 c5 c6 c7 c8 HX HR hm1
   go_wp2_with fail
   refine (taken_any r st own xa.1 xa.2 xk _ hmr).mono ?_
   rintro e w2 ⟨rfl,hb2⟩
   have hB2:Below w.heap.size w w2:=hBr.trans (hb2.mono hBr.size)
   have hm2:=hm.below hB2
   have hz2:w.heap.size+2≤w2.heap.size:=by have:=hb2.size; omega
   have HX2:Hid (w2.heap[w.heap.size]?=some (.cells #[.int .i64 xw.1,.int .i64 xw.2.1,.int .i64 xw.2.2,.int .i64 4,.int .i64 xa.1,.int .i64 xa.2,.int .i64 xk,.int .i64 xt,.int .i64 xv] 30 (0,0))):=(hb2.block _ (by omega)).trans HXr.out
   have HR2:Hid (w2.heap[w.heap.size+1]?=some (.cells #[.int .i64 0,.int .i64 0,.slice none 0 0] 66 (0,0))):=(hb2.block _ (by omega)).trans HRr.out
   have g4:=cell_later hb2 d4
   have g6:=cell_later hb2 d6
   have g8:=cell_later hb2 d8
   have kc:w2.cell? ⟨r,0,none⟩=some (.int .i64 st.k):=by
    obtain ⟨g,vp,vt,vr,ve,m⟩:=hm2
    rw [root_cell m.root]; rfl
   rw [show st.taken (xa.1,xa.2) xk=st.taken xa xk from rfl]
   clear hb2 hnx hmr d4 d5 d6 d8 HXr HRr
   by_cases hqq:(!st.taken xa xk && decide (st.k≤st.takenTo xa 16))=true
   ·have hq2:=hqq
    simp only [Bool.and_eq_true,Bool.not_eq_true',decide_eq_true_eq] at hq2
    obtain ⟨htk,hq⟩:=hq2
    have HQ:Hid ((!st.taken xa xk && decide (st.k≤st.takenTo xa 16))=true):=hqq
    clear hqq
    obtain ⟨e0,e1,e2,f0,f1,f2⟩:=ans_cells HR2.out
    have HS:=ans_stored (.int .i64 4) (.int .i64 0) (.slice none 0 0) HR2.out
    have HSH:Hid ((((w2.setCell ⟨w.heap.size+1,0,none⟩ (.int .i64 4)).setCell ⟨w.heap.size+1,1,none⟩ (.int .i64 0)).setCell ⟨w.heap.size+1,2,none⟩ (.slice none 0 0)).heap[w.heap.size+1]?=some (.cells #[.int .i64 4,.int .i64 0,.slice none 0 0] 66 (0,0))):=HS
    have hfree:own (w.heap.size+1)=none:=Hno.out _ (by omega)
    have hrep':=((hm2.free (j:=0) hfree (.int .i64 4)).free (j:=1) hfree (.int .i64 0)).free (j:=2) hfree (.slice none 0 0)
    have hbel:Below w.heap.size w (((w2.setCell ⟨w.heap.size+1,0,none⟩ (.int .i64 4)).setCell ⟨w.heap.size+1,1,none⟩ (.int .i64 0)).setCell ⟨w.heap.size+1,2,none⟩ (.slice none 0 0)) :=
     ((hB2.setCell (by simp) _).setCell (by simp) _).setCell (by simp) _
    clear HS
    rw [htk]
    go_wp2
    exact ret_ans Try.results112 rfl HSH.out rfl (.inl ⟨HQ.out,rfl,hrep',hbel⟩)
   ·have HQ:Hid ((!st.taken xa xk && decide (st.k≤st.takenTo xa 16))=false):=(Bool.not_eq_true _).mp hqq
    have h3:st.taken xa xk=true∨(st.taken xa xk=false∧¬ st.k≤st.takenTo xa 16):=by
     cases htk:st.taken xa xk
     ·right; refine ⟨rfl,fun h=>hqq (by simp [htk,h])⟩
     ·left; rfl
    clear hqq
    rcases h3 with htk | ⟨htk,hq⟩
    ·rw [htk]
     go_wp2_with fail
     refine (write_any r st own n t xk xv _ hm2 hu Hn.out hpl hol).mono ?_
     rintro e w3 ⟨rfl,own',hrep,hchg⟩
     have hn2:=writeT_at Hn.out xk xv
     have hu2:=writeT_uniq Hn.out hu xk xv
     have HP:Hid (st.putT n t xk xv={ st.writeT n t xk xv with txns:=(st.writeT n t xk xv).txns.set n { t.wrote st xk with puts:=(t.wrote st xk).puts++[xk] } }):=by unfold Hid RS.putT; rw [wrote_puts]
     have hpu2:(t.wrote st xk).puts.length < 4398046511104:=by rw [wrote_puts]; exact hpu
     generalize t.wrote st xk=t2 at *
     generalize st.writeT n t xk xv=st2 at *
     have hX3:w3.heap[w.heap.size]?=some (.cells #[.int .i64 xw.1,.int .i64 xw.2.1,.int .i64 xw.2.2,.int .i64 4,.int .i64 xa.1,.int .i64 xa.2,.int .i64 xk,.int .i64 xt,.int .i64 xv] 30 (0,0)):=by rw [hchg.block _ (by omega) (Hno.out _ (by omega))]; exact HX2.out
     have HR3:Hid (w3.heap[w.heap.size+1]?=some (.cells #[.int .i64 0,.int .i64 0,.slice none 0 0] 66 (0,0))):=by unfold Hid; rw [hchg.block _ (by omega) (Hno.out _ (by omega))]; exact HR2.out
     have k6:w3.cell? ⟨w.heap.size,6,none⟩=some (.int .i64 xk):=by rw [cell_of_row w3 _ 6 _ _ _ hX3]; rfl
     have hz3:w.heap.size+2≤w3.heap.size:=by have:=hchg.size; omega
     have hfx:own' w.heap.size=none:=hchg.none' (Hno.out _ (by omega)) (by omega)
     have hfr:own' (w.heap.size+1)=none:=hchg.none' (Hno.out _ (by omega)) (by omega)
     obtain ⟨g,vp,vt,vr,ve,m⟩:=hrep
     have M:=m
     obtain ⟨ao,cap,rfl,hmax,hel⟩:=m.txns.form (len_txnC g)
     obtain ⟨bt,rfl,hbo,hbt,hrg,hfz⟩:=hel n t2 hn2
     have hlt2:n < st2.txns.length:=(List.getElem?_eq_some_iff.1 hn2).1
     have hmem:t2∈st2.txns:=List.mem_of_getElem? hn2
     obtain ⟨ao2,cap2,hg1,hmax2,hel2⟩:=(m.puts t2 hmem).form (fun _=>rfl)
     have s4:w3.cell? ⟨r,4,none⟩=some (.slice (some ⟨bt,0,none⟩) st2.txns.length cap):=by rw [root_cell m.root]; rfl
     have so:w3.cell? ⟨bt,n*19+5,none⟩=some (.slice ao2 t2.puts.length cap2):=by rw [← hg1]; exact hrg 5 _ rfl
     have MM:Hid (Mem w3 r st2 own' g vp (.slice (some ⟨bt,0,none⟩) st2.txns.length cap) vr ve):=M
     have HG1:Hid ((g t2.who).2.1=.slice ao2 t2.puts.length cap2):=hg1
     have Hn2:Hid (st2.txns[n]?=some t2):=hn2
     have zn:(n:Int) < (st2.txns.length:Int):=by omega
     have hfb:=hfz (n*19+5)
     have hrlt:=M.old r (by rw [M.rootTag]; simp)
     unfold maxLen at hmax hmax2
     clear m M hel hel2 hrg hg1 hn2 hfz hX3 g4 g6 g8
     go_wp2_with fail
     have hS:(fun w':World=>w'.cell? ⟨r,4,none⟩=some (.slice (some ⟨bt,0,none⟩) st2.txns.length cap)∧w'.cell? ⟨bt,n*19+5,none⟩=some (.slice ao2 t2.puts.length cap2)∧w'.cell? ⟨w.heap.size,6,none⟩=some (.int .i64 xk)) w3.drew:=⟨s4,so,k6⟩
     refine wp_region_Z (z:=19) (S:=fun w'=>w'.cell? ⟨r,4,none⟩=some (.slice (some ⟨bt,0,none⟩) st2.txns.length cap)∧w'.cell? ⟨bt,n*19+5,none⟩=some (.slice ao2 t2.puts.length cap2)∧w'.cell? ⟨w.heap.size,6,none⟩=some (.int .i64 xk)) (by kernel_rfl) ?_
     refine zT (i:=0) (v:=?v1) (by decide +kernel) rfl (fun _ _ _ h=>h) hS (.inl ⟨by rfl,?y1⟩) ?_
     case y1=>(rintro wz ⟨zs0,zs1,zs2⟩; go_simp<;>with_reducible rfl)
     simp only [Act.put,z1,z2,z3,z4,z5,z6]
     refine zT (i:=1) (v:=?v2) (by decide +kernel) rfl (fun _ _ _ h=>h) hS (.inl ⟨by rfl,?y2⟩) ?_
     case y2=>(rintro wz ⟨zs0,zs1,zs2⟩; go_simp<;>with_reducible rfl)
     simp only [Act.put,z1,z2,z3,z4,z5,z6]
     refine zT (i:=2) (v:=?v3) (by decide +kernel) rfl (fun _ _ _ h=>h) hS (.inl ⟨by rfl,?y3⟩) ?_
     case y3=>(rintro wz ⟨zs0,zs1,zs2⟩; go_simp<;>with_reducible rfl)
     simp only [Act.put,z1,z2,z3,z4,z5,z6]
     refine zT (i:=3) (v:=?v4) (by decide +kernel) rfl (fun _ _ _ h=>h) hS (.inl ⟨by rfl,?y4⟩) ?_
     case y4=>(rintro wz ⟨zs0,zs1,zs2⟩; go_simp<;>with_reducible rfl)
     simp only [Act.put,z1,z2,z3,z4,z5,z6]
     refine zT (i:=4) (v:=?v5) (by decide +kernel) rfl (fun _ _ _ h=>h) hS (.inl ⟨by rfl,?y5⟩) ?_
     case y5=>(rintro wz ⟨zs0,zs1,zs2⟩; go_simp<;>with_reducible rfl)
     simp only [Act.put,z1,z2,z3,z4,z5,z6]
     refine zT (i:=5) (v:=?v6) (by decide +kernel) rfl (fun _ _ _ h=>h) hS (.inl ⟨by rfl,?y6⟩) ?_
     case y6=>(rintro wz ⟨zs0,zs1,zs2⟩; go_simp<;>with_reducible rfl)
     simp only [Act.put,z1,z2,z3,z4,z5,z6]
     refine zT (i:=6) (v:=?v7) (by decide +kernel) rfl (fun _ _ _ h=>h) hS (.inl ⟨by rfl,?y7⟩) ?_
     case y7=>(rintro wz ⟨zs0,zs1,zs2⟩; go_simp<;>with_reducible rfl)
     simp only [Act.put,z1,z2,z3,z4,z5,z6]
     refine zT (i:=7) (v:=?v8) (by decide +kernel) rfl (fun _ _ _ h=>h) hS (.inl ⟨by rfl,?y8⟩) ?_
     case y8=>(rintro wz ⟨zs0,zs1,zs2⟩; go_simp<;>with_reducible rfl)
     simp only [Act.put,z1,z2,z3,z4,z5,z6]
     refine zT (i:=8) (v:=?v9) (by decide +kernel) rfl (fun _ _ _ h=>h) hS (.inl ⟨by rfl,?y9⟩) ?_
     case y9=>(rintro wz ⟨zs0,zs1,zs2⟩; go_simp<;>with_reducible rfl)
     simp only [Act.put,z1,z2,z3,z4,z5,z6]
     refine zT (i:=9) (v:=?v10) (by decide +kernel) rfl (fun _ _ _ h=>h) hS (.inl ⟨by rfl,?y10⟩) ?_
     case y10=>(rintro wz ⟨zs0,zs1,zs2⟩; go_simp<;>with_reducible rfl)
     simp only [Act.put,z1,z2,z3,z4,z5,z6]
     refine zT (i:=10) (v:=?v11) (by decide +kernel) rfl (fun _ _ _ h=>h) hS (.inl ⟨by rfl,?y11⟩) ?_
     case y11=>(rintro wz ⟨zs0,zs1,zs2⟩; go_simp<;>with_reducible rfl)
     simp only [Act.put,z1,z2,z3,z4,z5,z6]
     refine zT (i:=11) (v:=?v12) (by decide +kernel) rfl (fun _ _ _ h=>h) hS (.inl ⟨by rfl,?y12⟩) ?_
     case y12=>(rintro wz ⟨zs0,zs1,zs2⟩; go_simp<;>with_reducible rfl)
     simp only [Act.put,z1,z2,z3,z4,z5,z6]
     refine zT (i:=12) (v:=?v13) (by decide +kernel) rfl (fun _ _ _ h=>h) hS (.inl ⟨by rfl,?y13⟩) ?_
     case y13=>(rintro wz ⟨zs0,zs1,zs2⟩; go_simp<;>with_reducible rfl)
     simp only [Act.put,z1,z2,z3,z4,z5,z6]
     refine zT (i:=13) (v:=?v14) (by decide +kernel) rfl (fun _ _ _ h=>h) hS (.inl ⟨by rfl,?y14⟩) ?_
     case y14=>(rintro wz ⟨zs0,zs1,zs2⟩; go_simp<;>with_reducible rfl)
     simp only [Act.put,z1,z2,z3,z4,z5,z6]
     refine zT (i:=14) (v:=?v15) (by decide +kernel) rfl (fun _ _ _ h=>h) hS (.inl ⟨by rfl,?y15⟩) ?_
     case y15=>(rintro wz ⟨zs0,zs1,zs2⟩; go_simp<;>with_reducible rfl)
     simp only [Act.put,z1,z2,z3,z4,z5,z6]
     have hrow:=(MM.out.puts t2 (List.mem_of_getElem? Hn2.out))
     rw [HG1.out] at hrow
     have hx4:(w3.alloc (.cells #[.int .i64 xk] 3)).drew.cell? ⟨r,4,none⟩=some (.slice (some ⟨bt,0,none⟩) st2.txns.length cap):=by
      rw [World.cell?_drew,World.cell?_alloc_lt _ _ _ (by show r < w3.heap.size; omega)]; exact s4
     have hxo:(w3.alloc (.cells #[.int .i64 xk] 3)).drew.cell? ⟨bt,n*19+5,none⟩=some (.slice ao2 t2.puts.length cap2):=by
      rw [World.cell?_drew,World.cell?_alloc_lt _ _ _ (by show bt < w3.heap.size; omega)]; exact so
     have hxk:(w3.alloc (.cells #[.int .i64 xk] 3)).drew.cell? ⟨w.heap.size,6,none⟩=some (.int .i64 xk):=by
      rw [World.cell?_drew,World.cell?_alloc_lt _ _ _ (by show w.heap.size < w3.heap.size; omega)]; exact k6
     refine wpAnyZ_one (i:=15) (by decide +kernel) rfl (fun K hK=>?_)
     go_simp
     refine hK _ _ (fun _=>⟨hx4,hxo,hxk⟩) ?_
     clear hK
     refine wpAnyZ_one (i:=16) (by decide +kernel) rfl (fun K hK=>?_)
     refine step_append_lies _ (by rfl) _ _ _ (by rfl) 0 3 i0 _ 1 8 Try.underlying49 hi0 hz0 hs0 hb0 rfl (by omega) (.slice ao2 t2.puts.length cap2) t2.puts.length (t2.puts.flatMap (fun n=>[Value.int .i64 n])) (by rfl) ((hrow.1.alloc _).drew)
      ⟨w3.heap.size,0,none⟩ 1 1 [.int .i64 xk] (by rfl) (by rfl) (World.news_of_block (cs:=#[.int .i64 xk]) (t:=3) (fr:=(0,0)) (heap_alloc_new w3 _)) (by simp [Value.oneCell'])
      (by omega) (by unfold maxLen; omega) (by omega) (Nat.zero_le _) (w3.heap.size+1) (by simp) ?_
     intro gg cap' w4 hown1 hgrow hat hlt1
     simp only [Act.put,List.getElem_toArray,List.getElem_cons_zero,List.getElem_cons_succ,List.setIfInBounds_toArray,List.set_cons_zero,List.set_cons_succ]
     have hnb:∀ q,(Value.slice ao2 t2.puts.length cap2).ownBlock=some q→own' q=some (7,t2.who):=hrow.2
     have nr:(Value.slice ao2 t2.puts.length cap2).ownBlock≠some r:=fun e=>by have:=hnb r e; rw [MM.out.rootTag] at this; cases this
     have nb:(Value.slice ao2 t2.puts.length cap2).ownBlock≠some bt:=fun e=>by have:=hnb bt e; rw [hbo] at this; cases this
     have nx:(Value.slice ao2 t2.puts.length cap2).ownBlock≠some w.heap.size:=fun e=>by have:=hnb _ e; rw [hfx] at this; cases this
     have ny:(Value.slice ao2 t2.puts.length cap2).ownBlock≠some (w.heap.size+1):=fun e=>by have:=hnb _ e; rw [hfr] at this; cases this
     have q4:w4.cell? ⟨r,4,none⟩=some (.slice (some ⟨bt,0,none⟩) st2.txns.length cap):=hgrow.cell hx4 (Ne.symm nr)
     have qo:w4.cell? ⟨bt,n*19+5,none⟩=some (.slice ao2 t2.puts.length cap2):=hgrow.cell hxo (Ne.symm nb)
     have qk:w4.cell? ⟨w.heap.size,6,none⟩=some (.int .i64 xk):=hgrow.cell hxk (Ne.symm nx)
     have fo:w4.frozen? ⟨bt,n*19+5,none⟩=false:=by
      rw [World.frozen?_of_block (hgrow.block bt (by simp; omega) (Ne.symm nb))]
      rw [World.frozen?_drew,World.frozen?_alloc_past _ _ _ (by omega)]; exact hfb
     refine hK _ _ (fun _=>⟨q4,qo,qk⟩) ?_
     clear hK
     refine wpAnyZ_one (i:=17) (by decide +kernel) rfl (fun K hK=>?_)
     go_simp
     refine hK _ _ (fun _=>⟨q4,qo,qk⟩) ?_
     clear hK
     refine wpAnyZ_one (i:=18) (by decide +kernel) rfl (fun K hK=>?_)
     go_simp
     refine hK _ _ (fun _=>⟨q4,qo,qk⟩) ?_
     clear hK
     refine wpAnyZ_one (i:=19) (by decide +kernel) rfl (fun K hK=>?_)
     go_simp
     refine hK _ _ (fun h=>absurd rfl h) ?_
     clear hK
     refine wpAnyZ_done (by decide +kernel) ?_ _
     have hgrow':=hgrow
     rw [← HG1.out] at hgrow' hat
     obtain ⟨own2,hrep2,hchg2⟩:=MM.out.puts_app (W:=(w3.alloc (.cells #[.int .i64 xk] 3)).drew) (H:=w3.heap.size+1) (o:=xk) hu2 Hn2.out (fun k hk=>Below.heap_alloc _ _ _ hk) (by simp) rfl rfl rfl hgrow' hown1 hat (by omega) hlt1
     have hR4:(w4.setCell ⟨bt,n*19+5,none⟩ (.slice (some ⟨gg,0,none⟩) (t2.puts.length+1) cap')).heap[w.heap.size+1]?=some (.cells #[.int .i64 0,.int .i64 0,.slice none 0 0] 66 (0,0)):=by
      rw [hchg2.block _ (by omega) hfr]; exact HR3.out
     have hfr2:own2 (w.heap.size+1)=none:=hchg2.none' hfr (by omega)
     generalize w4.setCell ⟨bt,n*19+5,none⟩ (.slice (some ⟨gg,0,none⟩) (t2.puts.length+1) cap')=w5 at *
     obtain ⟨e0,e1,e2,f0,f1,f2⟩:=ans_cells hR4
     have HS:Hid ((((w5.setCell ⟨w.heap.size+1,0,none⟩ (.int .i64 0)).setCell ⟨w.heap.size+1,1,none⟩ (.int .i64 0)).setCell ⟨w.heap.size+1,2,none⟩ (.slice none 0 0)).heap[w.heap.size+1]?=some (.cells #[.int .i64 0,.int .i64 0,.slice none 0 0] 66 (0,0))):=ans_stored (.int .i64 0) (.int .i64 0) (.slice none 0 0) hR4
     have hrep':=((hrep2.free (j:=0) hfr2 (.int .i64 0)).free (j:=1) hfr2 (.int .i64 0)).free (j:=2) hfr2 (.slice none 0 0)
     have hch0:=((Chg.of_below (own:=own) hB2).trans hchg).trans hchg2
     have hch':=((hch0.free (b:=w.heap.size+1) (j:=0) (by omega) (.int .i64 0)).free (b:=w.heap.size+1) (j:=1) (by omega) (.int .i64 0)).free (b:=w.heap.size+1) (j:=2) (by omega) (.slice none 0 0)
     clear hown1 hgrow hgrow' hat hlt1 hrow hx4 hxo hxk q4 qo qk fo s4 so k6 hR4 hrep2 hchg hchg2 hch0
     go_wp2
     have hfin:∃ own',Rep (((w5.setCell ⟨w.heap.size+1,0,none⟩ (.int .i64 0)).setCell ⟨w.heap.size+1,1,none⟩ (.int .i64 0)).setCell ⟨w.heap.size+1,2,none⟩ (.slice none 0 0)) r (st.putT n t xk xv) own'∧Chg own w (((w5.setCell ⟨w.heap.size+1,0,none⟩ (.int .i64 0)).setCell ⟨w.heap.size+1,1,none⟩ (.int .i64 0)).setCell ⟨w.heap.size+1,2,none⟩ (.slice none 0 0)) own':=⟨own2,by rw [HP.out]; exact hrep',hch'⟩
     refine ret_ans Try.results112 rfl HS.out rfl ?_
     first | exact .inr ⟨HQ.out,rfl,hfin⟩ | exact ⟨rfl,hfin⟩ | exact .inr ⟨rfl,hfin⟩
    ·rw [htk]
     go_wp2_with fail
     refine (write_any r st own n t xk xv _ hm2 hu Hn.out hpl hol).mono ?_
     rintro e w3 ⟨rfl,own',hrep,hchg⟩
     have hn2:=writeT_at Hn.out xk xv
     have hu2:=writeT_uniq Hn.out hu xk xv
     have HP:Hid (st.putT n t xk xv={ st.writeT n t xk xv with txns:=(st.writeT n t xk xv).txns.set n { t.wrote st xk with puts:=(t.wrote st xk).puts++[xk] } }):=by unfold Hid RS.putT; rw [wrote_puts]
     have hpu2:(t.wrote st xk).puts.length < 4398046511104:=by rw [wrote_puts]; exact hpu
     generalize t.wrote st xk=t2 at *
     generalize st.writeT n t xk xv=st2 at *
     have hX3:w3.heap[w.heap.size]?=some (.cells #[.int .i64 xw.1,.int .i64 xw.2.1,.int .i64 xw.2.2,.int .i64 4,.int .i64 xa.1,.int .i64 xa.2,.int .i64 xk,.int .i64 xt,.int .i64 xv] 30 (0,0)):=by rw [hchg.block _ (by omega) (Hno.out _ (by omega))]; exact HX2.out
     have HR3:Hid (w3.heap[w.heap.size+1]?=some (.cells #[.int .i64 0,.int .i64 0,.slice none 0 0] 66 (0,0))):=by unfold Hid; rw [hchg.block _ (by omega) (Hno.out _ (by omega))]; exact HR2.out
     have k6:w3.cell? ⟨w.heap.size,6,none⟩=some (.int .i64 xk):=by rw [cell_of_row w3 _ 6 _ _ _ hX3]; rfl
     have hz3:w.heap.size+2≤w3.heap.size:=by have:=hchg.size; omega
     have hfx:own' w.heap.size=none:=hchg.none' (Hno.out _ (by omega)) (by omega)
     have hfr:own' (w.heap.size+1)=none:=hchg.none' (Hno.out _ (by omega)) (by omega)
     obtain ⟨g,vp,vt,vr,ve,m⟩:=hrep
     have M:=m
     obtain ⟨ao,cap,rfl,hmax,hel⟩:=m.txns.form (len_txnC g)
     obtain ⟨bt,rfl,hbo,hbt,hrg,hfz⟩:=hel n t2 hn2
     have hlt2:n < st2.txns.length:=(List.getElem?_eq_some_iff.1 hn2).1
     have hmem:t2∈st2.txns:=List.mem_of_getElem? hn2
     obtain ⟨ao2,cap2,hg1,hmax2,hel2⟩:=(m.puts t2 hmem).form (fun _=>rfl)
     have s4:w3.cell? ⟨r,4,none⟩=some (.slice (some ⟨bt,0,none⟩) st2.txns.length cap):=by rw [root_cell m.root]; rfl
     have so:w3.cell? ⟨bt,n*19+5,none⟩=some (.slice ao2 t2.puts.length cap2):=by rw [← hg1]; exact hrg 5 _ rfl
     have MM:Hid (Mem w3 r st2 own' g vp (.slice (some ⟨bt,0,none⟩) st2.txns.length cap) vr ve):=M
     have HG1:Hid ((g t2.who).2.1=.slice ao2 t2.puts.length cap2):=hg1
     have Hn2:Hid (st2.txns[n]?=some t2):=hn2
     have zn:(n:Int) < (st2.txns.length:Int):=by omega
     have hfb:=hfz (n*19+5)
     have hrlt:=M.old r (by rw [M.rootTag]; simp)
     unfold maxLen at hmax hmax2
     clear m M hel hel2 hrg hg1 hn2 hfz hX3 g4 g6 g8
     go_wp2_with fail
     have hS:(fun w':World=>w'.cell? ⟨r,4,none⟩=some (.slice (some ⟨bt,0,none⟩) st2.txns.length cap)∧w'.cell? ⟨bt,n*19+5,none⟩=some (.slice ao2 t2.puts.length cap2)∧w'.cell? ⟨w.heap.size,6,none⟩=some (.int .i64 xk)) w3.drew:=⟨s4,so,k6⟩
     refine wp_region_Z (z:=19) (S:=fun w'=>w'.cell? ⟨r,4,none⟩=some (.slice (some ⟨bt,0,none⟩) st2.txns.length cap)∧w'.cell? ⟨bt,n*19+5,none⟩=some (.slice ao2 t2.puts.length cap2)∧w'.cell? ⟨w.heap.size,6,none⟩=some (.int .i64 xk)) (by kernel_rfl) ?_
     refine zT (i:=0) (v:=?v16) (by decide +kernel) rfl (fun _ _ _ h=>h) hS (.inl ⟨by rfl,?y16⟩) ?_
     case y16=>(rintro wz ⟨zs0,zs1,zs2⟩; go_simp<;>with_reducible rfl)
     simp only [Act.put,z1,z2,z3,z4,z5,z6]
     refine zT (i:=1) (v:=?v17) (by decide +kernel) rfl (fun _ _ _ h=>h) hS (.inl ⟨by rfl,?y17⟩) ?_
     case y17=>(rintro wz ⟨zs0,zs1,zs2⟩; go_simp<;>with_reducible rfl)
     simp only [Act.put,z1,z2,z3,z4,z5,z6]
     refine zT (i:=2) (v:=?v18) (by decide +kernel) rfl (fun _ _ _ h=>h) hS (.inl ⟨by rfl,?y18⟩) ?_
     case y18=>(rintro wz ⟨zs0,zs1,zs2⟩; go_simp<;>with_reducible rfl)
     simp only [Act.put,z1,z2,z3,z4,z5,z6]
     refine zT (i:=3) (v:=?v19) (by decide +kernel) rfl (fun _ _ _ h=>h) hS (.inl ⟨by rfl,?y19⟩) ?_
     case y19=>(rintro wz ⟨zs0,zs1,zs2⟩; go_simp<;>with_reducible rfl)
     simp only [Act.put,z1,z2,z3,z4,z5,z6]
     refine zT (i:=4) (v:=?v20) (by decide +kernel) rfl (fun _ _ _ h=>h) hS (.inl ⟨by rfl,?y20⟩) ?_
     case y20=>(rintro wz ⟨zs0,zs1,zs2⟩; go_simp<;>with_reducible rfl)
     simp only [Act.put,z1,z2,z3,z4,z5,z6]
     refine zT (i:=5) (v:=?v21) (by decide +kernel) rfl (fun _ _ _ h=>h) hS (.inl ⟨by rfl,?y21⟩) ?_
     case y21=>(rintro wz ⟨zs0,zs1,zs2⟩; go_simp<;>with_reducible rfl)
     simp only [Act.put,z1,z2,z3,z4,z5,z6]
     refine zT (i:=6) (v:=?v22) (by decide +kernel) rfl (fun _ _ _ h=>h) hS (.inl ⟨by rfl,?y22⟩) ?_
     case y22=>(rintro wz ⟨zs0,zs1,zs2⟩; go_simp<;>with_reducible rfl)
     simp only [Act.put,z1,z2,z3,z4,z5,z6]
     refine zT (i:=7) (v:=?v23) (by decide +kernel) rfl (fun _ _ _ h=>h) hS (.inl ⟨by rfl,?y23⟩) ?_
     case y23=>(rintro wz ⟨zs0,zs1,zs2⟩; go_simp<;>with_reducible rfl)
     simp only [Act.put,z1,z2,z3,z4,z5,z6]
     refine zT (i:=8) (v:=?v24) (by decide +kernel) rfl (fun _ _ _ h=>h) hS (.inl ⟨by rfl,?y24⟩) ?_
     case y24=>(rintro wz ⟨zs0,zs1,zs2⟩; go_simp<;>with_reducible rfl)
     simp only [Act.put,z1,z2,z3,z4,z5,z6]
     refine zT (i:=9) (v:=?v25) (by decide +kernel) rfl (fun _ _ _ h=>h) hS (.inl ⟨by rfl,?y25⟩) ?_
     case y25=>(rintro wz ⟨zs0,zs1,zs2⟩; go_simp<;>with_reducible rfl)
     simp only [Act.put,z1,z2,z3,z4,z5,z6]
     refine zT (i:=10) (v:=?v26) (by decide +kernel) rfl (fun _ _ _ h=>h) hS (.inl ⟨by rfl,?y26⟩) ?_
     case y26=>(rintro wz ⟨zs0,zs1,zs2⟩; go_simp<;>with_reducible rfl)
     simp only [Act.put,z1,z2,z3,z4,z5,z6]
     refine zT (i:=11) (v:=?v27) (by decide +kernel) rfl (fun _ _ _ h=>h) hS (.inl ⟨by rfl,?y27⟩) ?_
     case y27=>(rintro wz ⟨zs0,zs1,zs2⟩; go_simp<;>with_reducible rfl)
     simp only [Act.put,z1,z2,z3,z4,z5,z6]
     refine zT (i:=12) (v:=?v28) (by decide +kernel) rfl (fun _ _ _ h=>h) hS (.inl ⟨by rfl,?y28⟩) ?_
     case y28=>(rintro wz ⟨zs0,zs1,zs2⟩; go_simp<;>with_reducible rfl)
     simp only [Act.put,z1,z2,z3,z4,z5,z6]
     refine zT (i:=13) (v:=?v29) (by decide +kernel) rfl (fun _ _ _ h=>h) hS (.inl ⟨by rfl,?y29⟩) ?_
     case y29=>(rintro wz ⟨zs0,zs1,zs2⟩; go_simp<;>with_reducible rfl)
     simp only [Act.put,z1,z2,z3,z4,z5,z6]
     refine zT (i:=14) (v:=?v30) (by decide +kernel) rfl (fun _ _ _ h=>h) hS (.inl ⟨by rfl,?y30⟩) ?_
     case y30=>(rintro wz ⟨zs0,zs1,zs2⟩; go_simp<;>with_reducible rfl)
     simp only [Act.put,z1,z2,z3,z4,z5,z6]
     have hrow:=(MM.out.puts t2 (List.mem_of_getElem? Hn2.out))
     rw [HG1.out] at hrow
     have hx4:(w3.alloc (.cells #[.int .i64 xk] 3)).drew.cell? ⟨r,4,none⟩=some (.slice (some ⟨bt,0,none⟩) st2.txns.length cap):=by
      rw [World.cell?_drew,World.cell?_alloc_lt _ _ _ (by show r < w3.heap.size; omega)]; exact s4
     have hxo:(w3.alloc (.cells #[.int .i64 xk] 3)).drew.cell? ⟨bt,n*19+5,none⟩=some (.slice ao2 t2.puts.length cap2):=by
      rw [World.cell?_drew,World.cell?_alloc_lt _ _ _ (by show bt < w3.heap.size; omega)]; exact so
     have hxk:(w3.alloc (.cells #[.int .i64 xk] 3)).drew.cell? ⟨w.heap.size,6,none⟩=some (.int .i64 xk):=by
      rw [World.cell?_drew,World.cell?_alloc_lt _ _ _ (by show w.heap.size < w3.heap.size; omega)]; exact k6
     refine wpAnyZ_one (i:=15) (by decide +kernel) rfl (fun K hK=>?_)
     go_simp
     refine hK _ _ (fun _=>⟨hx4,hxo,hxk⟩) ?_
     clear hK
     refine wpAnyZ_one (i:=16) (by decide +kernel) rfl (fun K hK=>?_)
     refine step_append_lies _ (by rfl) _ _ _ (by rfl) 0 3 i0 _ 1 8 Try.underlying49 hi0 hz0 hs0 hb0 rfl (by omega) (.slice ao2 t2.puts.length cap2) t2.puts.length (t2.puts.flatMap (fun n=>[Value.int .i64 n])) (by rfl) ((hrow.1.alloc _).drew)
      ⟨w3.heap.size,0,none⟩ 1 1 [.int .i64 xk] (by rfl) (by rfl) (World.news_of_block (cs:=#[.int .i64 xk]) (t:=3) (fr:=(0,0)) (heap_alloc_new w3 _)) (by simp [Value.oneCell'])
      (by omega) (by unfold maxLen; omega) (by omega) (Nat.zero_le _) (w3.heap.size+1) (by simp) ?_
     intro gg cap' w4 hown1 hgrow hat hlt1
     simp only [Act.put,List.getElem_toArray,List.getElem_cons_zero,List.getElem_cons_succ,List.setIfInBounds_toArray,List.set_cons_zero,List.set_cons_succ]
     have hnb:∀ q,(Value.slice ao2 t2.puts.length cap2).ownBlock=some q→own' q=some (7,t2.who):=hrow.2
     have nr:(Value.slice ao2 t2.puts.length cap2).ownBlock≠some r:=fun e=>by have:=hnb r e; rw [MM.out.rootTag] at this; cases this
     have nb:(Value.slice ao2 t2.puts.length cap2).ownBlock≠some bt:=fun e=>by have:=hnb bt e; rw [hbo] at this; cases this
     have nx:(Value.slice ao2 t2.puts.length cap2).ownBlock≠some w.heap.size:=fun e=>by have:=hnb _ e; rw [hfx] at this; cases this
     have ny:(Value.slice ao2 t2.puts.length cap2).ownBlock≠some (w.heap.size+1):=fun e=>by have:=hnb _ e; rw [hfr] at this; cases this
     have q4:w4.cell? ⟨r,4,none⟩=some (.slice (some ⟨bt,0,none⟩) st2.txns.length cap):=hgrow.cell hx4 (Ne.symm nr)
     have qo:w4.cell? ⟨bt,n*19+5,none⟩=some (.slice ao2 t2.puts.length cap2):=hgrow.cell hxo (Ne.symm nb)
     have qk:w4.cell? ⟨w.heap.size,6,none⟩=some (.int .i64 xk):=hgrow.cell hxk (Ne.symm nx)
     have fo:w4.frozen? ⟨bt,n*19+5,none⟩=false:=by
      rw [World.frozen?_of_block (hgrow.block bt (by simp; omega) (Ne.symm nb))]
      rw [World.frozen?_drew,World.frozen?_alloc_past _ _ _ (by omega)]; exact hfb
     refine hK _ _ (fun _=>⟨q4,qo,qk⟩) ?_
     clear hK
     refine wpAnyZ_one (i:=17) (by decide +kernel) rfl (fun K hK=>?_)
     go_simp
     refine hK _ _ (fun _=>⟨q4,qo,qk⟩) ?_
     clear hK
     refine wpAnyZ_one (i:=18) (by decide +kernel) rfl (fun K hK=>?_)
     go_simp
     refine hK _ _ (fun _=>⟨q4,qo,qk⟩) ?_
     clear hK
     refine wpAnyZ_one (i:=19) (by decide +kernel) rfl (fun K hK=>?_)
     go_simp
     refine hK _ _ (fun h=>absurd rfl h) ?_
     clear hK
     refine wpAnyZ_done (by decide +kernel) ?_ _
     have hgrow':=hgrow
     rw [← HG1.out] at hgrow' hat
     obtain ⟨own2,hrep2,hchg2⟩:=MM.out.puts_app (W:=(w3.alloc (.cells #[.int .i64 xk] 3)).drew) (H:=w3.heap.size+1) (o:=xk) hu2 Hn2.out (fun k hk=>Below.heap_alloc _ _ _ hk) (by simp) rfl rfl rfl hgrow' hown1 hat (by omega) hlt1
     have hR4:(w4.setCell ⟨bt,n*19+5,none⟩ (.slice (some ⟨gg,0,none⟩) (t2.puts.length+1) cap')).heap[w.heap.size+1]?=some (.cells #[.int .i64 0,.int .i64 0,.slice none 0 0] 66 (0,0)):=by
      rw [hchg2.block _ (by omega) hfr]; exact HR3.out
     have hfr2:own2 (w.heap.size+1)=none:=hchg2.none' hfr (by omega)
     generalize w4.setCell ⟨bt,n*19+5,none⟩ (.slice (some ⟨gg,0,none⟩) (t2.puts.length+1) cap')=w5 at *
     obtain ⟨e0,e1,e2,f0,f1,f2⟩:=ans_cells hR4
     have HS:Hid ((((w5.setCell ⟨w.heap.size+1,0,none⟩ (.int .i64 0)).setCell ⟨w.heap.size+1,1,none⟩ (.int .i64 0)).setCell ⟨w.heap.size+1,2,none⟩ (.slice none 0 0)).heap[w.heap.size+1]?=some (.cells #[.int .i64 0,.int .i64 0,.slice none 0 0] 66 (0,0))):=ans_stored (.int .i64 0) (.int .i64 0) (.slice none 0 0) hR4
     have hrep':=((hrep2.free (j:=0) hfr2 (.int .i64 0)).free (j:=1) hfr2 (.int .i64 0)).free (j:=2) hfr2 (.slice none 0 0)
     have hch0:=((Chg.of_below (own:=own) hB2).trans hchg).trans hchg2
     have hch':=((hch0.free (b:=w.heap.size+1) (j:=0) (by omega) (.int .i64 0)).free (b:=w.heap.size+1) (j:=1) (by omega) (.int .i64 0)).free (b:=w.heap.size+1) (j:=2) (by omega) (.slice none 0 0)
     clear hown1 hgrow hgrow' hat hlt1 hrow hx4 hxo hxk q4 qo qk fo s4 so k6 hR4 hrep2 hchg hchg2 hch0
     go_wp2
     have hfin:∃ own',Rep (((w5.setCell ⟨w.heap.size+1,0,none⟩ (.int .i64 0)).setCell ⟨w.heap.size+1,1,none⟩ (.int .i64 0)).setCell ⟨w.heap.size+1,2,none⟩ (.slice none 0 0)) r (st.putT n t xk xv) own'∧Chg own w (((w5.setCell ⟨w.heap.size+1,0,none⟩ (.int .i64 0)).setCell ⟨w.heap.size+1,1,none⟩ (.int .i64 0)).setCell ⟨w.heap.size+1,2,none⟩ (.slice none 0 0)) own':=⟨own2,by rw [HP.out]; exact hrep',hch'⟩
     refine ret_ans Try.results112 rfl HS.out rfl ?_
     first | exact .inr ⟨HQ.out,rfl,hfin⟩ | exact ⟨rfl,hfin⟩ | exact .inr ⟨rfl,hfin⟩
end Go.Proofs.Ytpbcplfpjcacfaa
