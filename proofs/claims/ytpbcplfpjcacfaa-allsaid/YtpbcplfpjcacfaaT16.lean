import Derived.Test.YtpbcplfpjcacfaaF05
import Derived.Test.YtpbcplfpjcacfaaT15
namespace Go.Proofs.Ytpbcplfpjcacfaa
open Go.RowKit
set_option maxRecDepth 100000
set_option maxHeartbeats 8000000
theorem ans_out {own own':Own} {w w2:World} {r R:Nat} {st:RS} (c y:Int) (hrep:Rep w2 r st own') (hchg:Chg own w w2 own') (hf:own' R=none) (hw:w.heap.size≤R) :
  AnsPost own w r st ⟨c,y,[]⟩ (.returned (.agg #[.int .i64 c,.int .i64 y,.slice none 0 0])) (((w2.setCell ⟨R,0,none⟩ (.int .i64 c)).setCell ⟨R,1,none⟩ (.int .i64 y)).setCell ⟨R,2,none⟩ (.slice none 0 0)) :=
 ⟨.slice none 0 0,own',rfl,World.ownsRow_nil _ _ _ _,((hrep.free (j:=0) hf _).free (j:=1) hf _).free (j:=2) hf _,((hchg.free (j:=0) hw _).free (j:=1) hw _).free (j:=2) hw _,fun b hv=>by simp [Value.ownBlock] at hv⟩
theorem leads_is {r:Nat} {st:RS} {own:Own} {x y:Wh} {v:Bool} {w:World} (h:st.leads 4 x y=v) (hm:Rep w r st own) :
  Calls Try.prog 129 #[.pointer (some ⟨r,0,none⟩),.agg #[.int .i64 x.1,.int .i64 x.2.1,.int .i64 x.2.2],.agg #[.int .i64 y.1,.int .i64 y.2.1,.int .i64 y.2.2],.int .i64 4] w fun e w'=>e=.returned (.bool v)∧Below w.heap.size w w':=by
 subst h; exact leads_any r st own 4 4 x y w rfl (Nat.le_refl _) hm
def RgInv (N:Nat) (own:Own) (w0:World) (r:Nat) (st:RS) (x:Wh) (wr:World):Prop :=
 ∃ st' own',Rep wr r st' own'∧st'.Fit N∧Chg own w0 wr own'∧st'.ringsT x=st.ringsT x
theorem rings_any {N:Nat} (r:Nat) (st:RS) (own:Own) (x:Wh) (w:World) (hm:Rep w r st own) (F:st.Fit N) (hNb:N < 4398046511104) :
  Calls Try.prog 115 #[.pointer (some ⟨r,0,none⟩),.agg #[.int .i64 x.1,.int .i64 x.2.1,.int .i64 x.2.2]] w (AnsPost own w r (st.ringsT x).1 (st.ringsT x).2):=by
 have hfr:=hm.fresh
 go_enter Try.func115,Try.ntmps115
 go_wp2_with fail
 have hA:Below w.heap.size w ((w.alloc (.cells #[.int .i64 x.1,.int .i64 x.2.1,.int .i64 x.2.2] 28)).alloc (.cells #[.int .i64 0,.int .i64 0,.slice none 0 0] 66)):=below2r
 have hbx:=box2 w #[.int .i64 x.1,.int .i64 x.2.1,.int .i64 x.2.2] #[.int .i64 0,.int .i64 0,.slice none 0 0] 28 66
 have hzA:Hid (((w.alloc (.cells #[.int .i64 x.1,.int .i64 x.2.1,.int .i64 x.2.2] 28)).alloc (.cells #[.int .i64 0,.int .i64 0,.slice none 0 0] 66)).heap.size=w.heap.size+2):=by unfold Hid; simp
 have hRA:Hid (((w.alloc (.cells #[.int .i64 x.1,.int .i64 x.2.1,.int .i64 x.2.2] 28)).alloc (.cells #[.int .i64 0,.int .i64 0,.slice none 0 0] 66)).heap[w.heap.size+1]?=some (.cells #[.int .i64 0,.int .i64 0,.slice none 0 0] 66 (0,0))):=by
  unfold Hid
  have:=heap_alloc_new (w.alloc (.cells #[.int .i64 x.1,.int .i64 x.2.1,.int .i64 x.2.2] 28)) (.cells #[.int .i64 0,.int .i64 0,.slice none 0 0] 66 (0,0))
  rw [World.size_alloc] at this; exact this
 generalize (w.alloc (.cells #[.int .i64 x.1,.int .i64 x.2.1,.int .i64 x.2.2] 28)).alloc (.cells #[.int .i64 0,.int .i64 0,.slice none 0 0] 66)=wA at *
 have hI0:Hid (RgInv N own wA r st x wA):=⟨st,own,hm.below hA,F,Chg.of_below (Below.refl _ _),rfl⟩
 have HXA:Hid (∀ j,wA.cell? ⟨w.heap.size,j,none⟩=#[Value.int .i64 x.1,.int .i64 x.2.1,.int .i64 x.2.2][j]?):=fun j=>(hbx j).1
 have Hfr:Hid (∀ k,w.heap.size≤k→own k=none):=hfr
 clear hm F hbx hfr
 go_loopw [] (fun wr=>Hid (RgInv N own wA r st x wr)) (fun wr=>txLen r wr)
 case atStart=>exact hI0
 case round =>
  obtain ⟨st',own',hrep',F',hC',hE'⟩:=hrel.out
  rename World=>wo
  have hL:=F'.txnsL
  have HR':Hid (Rep wo r st' own'):=hrep'
  have HC':Hid (Chg own wA wo own'):=hC'
  have HE':Hid (st'.ringsT x=st.ringsT x):=hE'
  have HF':Hid (st'.Fit N):=F'
  have HW':Hid (txLen r wo=st'.txns.length):=hrep'.txLen
  have hzo:w.heap.size+2≤wo.heap.size:=by have:=hC'.size; have:=hzA.out; omega
  have x0:wo.cell? ⟨w.heap.size,0,none⟩=some (.int .i64 x.1):=by rw [hC'.cellAt (Hfr.out _ (Nat.le_refl _)) (by have:=hzA.out; omega)]; exact HXA.out 0
  have x1:wo.cell? ⟨w.heap.size,1,none⟩=some (.int .i64 x.2.1):=by rw [hC'.cellAt (Hfr.out _ (Nat.le_refl _)) (by have:=hzA.out; omega)]; exact HXA.out 1
  have x2:wo.cell? ⟨w.heap.size,2,none⟩=some (.int .i64 x.2.2):=by rw [hC'.cellAt (Hfr.out _ (Nat.le_refl _)) (by have:=hzA.out; omega)]; exact HXA.out 2
  have HRo:Hid (wo.heap[w.heap.size+1]?=some (.cells #[.int .i64 0,.int .i64 0,.slice none 0 0] 66 (0,0))):=by unfold Hid; rw [hC'.block _ (by have:=hzA.out; omega) (Hfr.out _ (by omega))]; exact hRA.out
  have hnR:own' (w.heap.size+1)=none:=hC'.none' (Hfr.out _ (by omega)) (by have:=hzA.out; omega)
  obtain ⟨g,vp,vt,vr,ve,m⟩:=hrep'
  obtain ⟨ao,cap,rfl,hmax,hel⟩:=m.txns.form (len_txnC g)
  have hrlt:=m.old r (by rw [m.rootTag]; simp)
  have c4:wo.cell? ⟨r,4,none⟩=some (.slice ao st'.txns.length cap):=by rw [root_cell m.root]; rfl
  clear hC' hE' hrel hI0 F' m
  go_wp2_with fail
  go_loopw [5,6] (fun b i wq=>∃ k:Nat,k≤4∧i=.int .i64 k∧b=.int .i64 (bestV (st'.ringTo x k))∧Below wo.heap.size wo wq) (fun _ i _=>4 - (intOf i).toNat)
  case atStart=>exact ⟨0,Nat.zero_le _,rfl,rfl,Below.refl _ _⟩
  case round =>
   obtain ⟨k,hk,rfl,rfl,hb⟩:=hrel
   have hzb:=hb.size
   have p0:=cell_later hb x0
   have p1:=cell_later hb x1
   have p2:=cell_later hb x2
   by_cases hlt:k < 4
   ·have zk:(k:Int)≤3:=by omega
    have l0:w.heap.size < wr.heap.size:=by omega
    generalize hbv:bestV (st'.ringTo x k)=bv
    go_wp2_with fail
    have hA2:Below wr.heap.size wr (wr.alloc (.cells #[.int .i64 x.1,.int .i64 x.2.1,.int .i64 (k:Int)] 28)):=(Below.refl _ _).alloc (Nat.le_refl _) _
    have hB2:Below wo.heap.size wo (wr.alloc (.cells #[.int .i64 x.1,.int .i64 x.2.1,.int .i64 (k:Int)] 28)):=hb.trans (hA2.mono hzb)
    have hN:(wr.alloc (.cells #[.int .i64 x.1,.int .i64 x.2.1,.int .i64 (k:Int)] 28)).heap[wr.heap.size]?=some (.cells #[.int .i64 x.1,.int .i64 x.2.1,.int .i64 (k:Int)] 28 (0,0)):=heap_alloc_new wr _
    have hz3:Hid ((wr.alloc (.cells #[.int .i64 x.1,.int .i64 x.2.1,.int .i64 (k:Int)] 28)).heap.size=wr.heap.size+1):=by unfold Hid; simp
    generalize wr.alloc (.cells #[.int .i64 x.1,.int .i64 x.2.1,.int .i64 (k:Int)] 28)=wM at *
    refine (live_any r st' own' x.1 x.2.1 (k:Int) _ (HR'.out.below hB2)).mono ?_
    rintro e w3 ⟨rfl,hb3⟩
    have hB3:Below wo.heap.size wo w3:=hB2.trans (hb3.mono hB2.size)
    have hN3:w3.heap[wr.heap.size]?=some (.cells #[.int .i64 x.1,.int .i64 x.2.1,.int .i64 (k:Int)] 28 (0,0)):=by rw [hb3.block _ (by have:=hz3.out; omega)]; exact hN
    obtain ⟨m0,m1,m2,_,_,_⟩:=ans_cells hN3
    have kne:=kin_some w3
    have k4:=kin_cell (cell_later hB3 c4)
    have kx0:=kin_cell (cell_later hB3 x0)
    have kx1:=kin_cell (cell_later hB3 x1)
    have kx2:=kin_cell (cell_later hB3 x2)
    have km0:=kin_cell m0
    have km1:=kin_cell m1
    have km2:=kin_cell m2
    have HR3:Hid (Rep w3 r st' own'):=HR'.out.below hB3
    clear hN hN3 hb3 m0 m1 m2 hA2 p0 p1 p2
    rcases live_cases st' (x.1,x.2.1,(k:Int)) with ⟨hlv,_⟩ | ⟨i,t,hlv,hti,htw⟩
    ·rw [hlv]
     have Hst:Hid (st'.ringTo x (k+1)=st'.ringTo x k):=by unfold Hid; rw [RS.ringTo,RS.inRing,hlv]; simp
     go_wp2_with fail
     refine wp_region_kin (by kernel_rfl) (by kernel_rfl) ?_
     repeat (first | go_big_quiet_step (fail) | quiet_step (fail))
     refine wpQuiet_nil ?_
     intro _ hw'
     obtain ⟨xq,hw''⟩:=hw'
     subst hw''
     have hB4:Below wo.heap.size wo xq.w:=hB3.trans (xq.h.mono hB3.size)
     go_wp2
     go_roundw
     case rel=>exact ⟨k+1,by omega,by go_num,by rw [Hst.out,hbv],hB4⟩
     case measure=>simp [intOf]; omega
    ·rw [hlv]
     obtain ⟨bt,hao,_,hbt,hrt,_⟩:=hel i t hti
     have zi:(i:Int) < (st'.txns.length:Int):=by have:=(List.getElem?_eq_some_iff.1 hti).1; omega
     have ki3:=kin_cell (rangeAt_below hrt hB3 hbt 3 _ rfl)
     have Hlv:Hid (st'.live (x.1,x.2.1,(k:Int))=(i:Int)):=hlv
     have Hti:Hid (st'.txns[i]?=some t):=hti
     have gi:decide (0≤(i:Int))=true:=by simp
     clear hlv hti htw hrt
     cases h1:st'.leads 4 x (x.1,x.2.1,(k:Int))
     ·have hc1:∀ W,Below w3.heap.size w3 W→Calls Try.prog 129 #[.pointer (some ⟨r,0,none⟩),.agg #[.int .i64 x.1,.int .i64 x.2.1,.int .i64 x.2.2],.agg #[.int .i64 x.1,.int .i64 x.2.1,.int .i64 (k:Int)],.int .i64 4] W fun e w'=>e=.returned (.bool false)∧Below W.heap.size W w':=fun W hB=>leads_is (x:=x) (y:=(x.1,x.2.1,(k:Int))) h1 (HR3.out.below hB)
      have Hst:Hid (st'.ringTo x (k+1)=st'.ringTo x k):=by unfold Hid; rw [RS.ringTo,RS.inRing,h1]; simp
      clear h1
      go_wp2_with fail
      refine wp_region_kin (by kernel_rfl) (by kernel_rfl) ?_
      repeat (first | go_big_quiet_step (first | (go_at_call 129; exact Calls.kin (hc1 _ (Kin.h _)))) | quiet_step (first | (go_at_call 129; exact Calls.kin (hc1 _ (Kin.h _)))))
      refine wpQuiet_nil ?_
      intro _ hw'
      obtain ⟨xq,hw''⟩:=hw'
      subst hw''
      have hB4:Below wo.heap.size wo xq.w:=hB3.trans (xq.h.mono hB3.size)
      go_wp2
      go_roundw
      case rel=>exact ⟨k+1,by omega,by go_num,by rw [Hst.out,hbv],hB4⟩
      case measure=>simp [intOf]; omega
     ·have hc1:∀ W,Below w3.heap.size w3 W→Calls Try.prog 129 #[.pointer (some ⟨r,0,none⟩),.agg #[.int .i64 x.1,.int .i64 x.2.1,.int .i64 x.2.2],.agg #[.int .i64 x.1,.int .i64 x.2.1,.int .i64 (k:Int)],.int .i64 4] W fun e w'=>e=.returned (.bool true)∧Below W.heap.size W w':=fun W hB=>leads_is (x:=x) (y:=(x.1,x.2.1,(k:Int))) h1 (HR3.out.below hB)
      cases h2:st'.leads 4 (x.1,x.2.1,(k:Int)) x
      ·have hc2:∀ W,Below w3.heap.size w3 W→Calls Try.prog 129 #[.pointer (some ⟨r,0,none⟩),.agg #[.int .i64 x.1,.int .i64 x.2.1,.int .i64 (k:Int)],.agg #[.int .i64 x.1,.int .i64 x.2.1,.int .i64 x.2.2],.int .i64 4] W fun e w'=>e=.returned (.bool false)∧Below W.heap.size W w':=fun W hB=>leads_is (x:=(x.1,x.2.1,(k:Int))) (y:=x) h2 (HR3.out.below hB)
       have Hst:Hid (st'.ringTo x (k+1)=st'.ringTo x k):=by unfold Hid; rw [RS.ringTo,RS.inRing,h1,h2]; simp
       clear h1 h2
       go_wp2_with fail
       refine wp_region_kin (by kernel_rfl) (by kernel_rfl) ?_
       repeat (go_big_quiet_step (fail))
       go_big_quiet_step ((go_at_call 129; exact Calls.kin (hc1 _ (Kin.h _))))
       repeat (go_big_quiet_step (fail))
       go_big_quiet_step ((go_at_call 129; exact Calls.kin (hc2 _ (Kin.h _))))
       repeat (go_big_quiet_step (fail))
       refine wpQuiet_nil ?_
       intro _ hw'
       obtain ⟨xq,hw''⟩:=hw'
       subst hw''
       have hB4:Below wo.heap.size wo xq.w:=hB3.trans (xq.h.mono hB3.size)
       go_wp2
       go_roundw
       case rel=>exact ⟨k+1,by omega,by go_num,by rw [Hst.out,hbv],hB4⟩
       case measure=>simp [intOf]; omega
      ·have hc2:∀ W,Below w3.heap.size w3 W→Calls Try.prog 129 #[.pointer (some ⟨r,0,none⟩),.agg #[.int .i64 x.1,.int .i64 x.2.1,.int .i64 (k:Int)],.agg #[.int .i64 x.1,.int .i64 x.2.1,.int .i64 x.2.2],.int .i64 4] W fun e w'=>e=.returned (.bool true)∧Below W.heap.size W w':=fun W hB=>leads_is (x:=(x.1,x.2.1,(k:Int))) (y:=x) h2 (HR3.out.below hB)
       have hir:st'.inRing x (x.1,x.2.1,(k:Int))=true:=by rw [RS.inRing,h1,h2,Hlv.out]; simp
       clear h1 h2
       have hq:st'.ringTo x (k+1)=if st'.younger (st'.ringTo x k) i then some i else st'.ringTo x k:=by rw [RS.ringTo,hir,Hlv.out]; simp
       cases hrk:st'.ringTo x k with
       | none =>
        rw [hrk] at hbv
        simp only [bestV] at hbv
        subst hbv
        have Hst:Hid (st'.ringTo x (k+1)=some i):=by unfold Hid; rw [hq,hrk]; simp [RS.younger]
        clear hq hir hrk
        go_wp2_with fail
        refine wp_region_kin (by kernel_rfl) (by kernel_rfl) ?_
        repeat (go_big_quiet_step (fail))
        go_big_quiet_step ((go_at_call 129; exact Calls.kin (hc1 _ (Kin.h _))))
        repeat (go_big_quiet_step (fail))
        go_big_quiet_step ((go_at_call 129; exact Calls.kin (hc2 _ (Kin.h _))))
        repeat (go_big_quiet_step (fail))
        refine wpQuiet_nil ?_
        intro _ hw'
        obtain ⟨xq,hw''⟩:=hw'
        subst hw''
        have hB4:Below wo.heap.size wo xq.w:=hB3.trans (xq.h.mono hB3.size)
        go_wp2
        go_roundw
        case rel=>exact ⟨k+1,by omega,by go_num,by rw [Hst.out]; rfl,hB4⟩
        case measure=>simp [intOf]; omega
       | some b =>
        rw [hrk] at hbv
        simp only [bestV] at hbv
        subst hbv
        obtain ⟨tb,htb,_⟩:=ringTo_at hrk
        obtain ⟨bt',hao',_,hbt',hrb,_⟩:=hel b tb htb
        rw [hao] at hao'
        injection hao' with e1; injection e1 with e2; subst e2
        subst hao
        have kb3:=kin_cell (rangeAt_below hrb hB3 hbt' 3 _ rfl)
        have zb:(b:Int) < (st'.txns.length:Int):=by have:=(List.getElem?_eq_some_iff.1 htb).1; omega
        have nb:decide ((b:Int) < 0)=false:=by simp
        have e3:st'.nthAt i=t.nth:=by unfold RS.nthAt; rw [Hti.out]
        have e4:st'.nthAt b=tb.nth:=by unfold RS.nthAt; rw [htb]
        by_cases hlt2:tb.nth < t.nth
        ·have Hst:Hid (st'.ringTo x (k+1)=some i):=by unfold Hid; rw [hq,hrk]; simp [RS.younger,e3,e4,hlt2]
         have dn:decide (t.nth > tb.nth)=true:=by simpa using hlt2
         clear hq hir hrk hrb htb hel
         go_wp2_with fail
         refine wp_region_kin (by kernel_rfl) (by kernel_rfl) ?_
         repeat (go_big_quiet_step (fail))
         go_big_quiet_step ((go_at_call 129; exact Calls.kin (hc1 _ (Kin.h _))))
         repeat (go_big_quiet_step (fail))
         go_big_quiet_step ((go_at_call 129; exact Calls.kin (hc2 _ (Kin.h _))))
         repeat (go_big_quiet_step (fail))
         refine wpQuiet_nil ?_
         intro _ hw'
         obtain ⟨xq,hw''⟩:=hw'
         subst hw''
         have hB4:Below wo.heap.size wo xq.w:=hB3.trans (xq.h.mono hB3.size)
         go_wp2
         go_roundw
         case rel=>exact ⟨k+1,by omega,by go_num,by rw [Hst.out]; rfl,hB4⟩
         case measure=>simp [intOf]; omega
        ·have Hst:Hid (st'.ringTo x (k+1)=some b):=by unfold Hid; rw [hq,hrk]; simp [RS.younger,e3,e4,hlt2]
         have dn:decide (t.nth > tb.nth)=false:=by simpa using hlt2
         clear hq hir hrk hrb htb hel
         go_wp2_with fail
         refine wp_region_kin (by kernel_rfl) (by kernel_rfl) ?_
         repeat (go_big_quiet_step (fail))
         go_big_quiet_step ((go_at_call 129; exact Calls.kin (hc1 _ (Kin.h _))))
         repeat (go_big_quiet_step (fail))
         go_big_quiet_step ((go_at_call 129; exact Calls.kin (hc2 _ (Kin.h _))))
         repeat (go_big_quiet_step (fail))
         refine wpQuiet_nil ?_
         intro _ hw'
         obtain ⟨xq,hw''⟩:=hw'
         subst hw''
         have hB4:Below wo.heap.size wo xq.w:=hB3.trans (xq.h.mono hB3.size)
         go_wp2
         go_roundw
         case rel=>exact ⟨k+1,by omega,by go_num,by rw [Hst.out]; rfl,hB4⟩
         case measure=>simp [intOf]; omega
   ·have ek:k=4:=by omega
    subst ek
    have hCh:Hid (Chg own w wr own'):=((Chg.of_below hA).trans HC'.out).trans (Chg.of_below hb)
    have hCa:Hid (Chg own wA wr own'):=HC'.out.trans (Chg.of_below hb)
    have hRr:Hid (wr.heap[w.heap.size+1]?=some (.cells #[.int .i64 0,.int .i64 0,.slice none 0 0] 66 (0,0))):=by unfold Hid; rw [hb.block _ (by omega)]; exact HRo.out
    have HRw:Hid (Rep wr r st' own'):=HR'.out.below hb
    cases hrk:st'.ringTo x 4 with
    | none =>
     simp only [bestV]
     have Hf:Hid (st.ringsT x=(st',⟨1,0,[]⟩)):=by unfold Hid; rw [← HE'.out]; exact ringsT_none hrk
     clear hel hrk
     go_wp2_with fail
     refine (code_any 1 _).mono ?_
     rintro e w1 ⟨rfl,hb1⟩
     have hR1:w1.heap[w.heap.size+1]?=some (.cells #[.int .i64 0,.int .i64 0,.slice none 0 0] 66 (0,0)):=by rw [hb1.block _ (by omega)]; exact hRr.out
     obtain ⟨e0,e1,e2,f0,f1,f2⟩:=ans_cells hR1
     have HS:Hid (type_of% (ans_stored (.int .i64 1) (.int .i64 0) (.slice none 0 0) hR1)):=ans_stored (.int .i64 1) (.int .i64 0) (.slice none 0 0) hR1
     have HP:Hid (type_of% (ans_out 1 0 (HRw.out.below hb1) (hCh.out.trans (Chg.of_below hb1)) hnR (show w.heap.size≤w.heap.size+1 by omega))):=ans_out 1 0 (HRw.out.below hb1) (hCh.out.trans (Chg.of_below hb1)) hnR (by omega)
     clear hR1 hb1
     unfold ansV
     go_wp2
     exact ret_ans Try.results115 rfl HS.out rfl (by rw [Hf.out]; exact HP.out)
    | some b =>
     simp only [bestV]
     obtain ⟨t,htb,_⟩:=ringTo_at hrk
     obtain ⟨bt,hao,_,hbt,hrt,_⟩:=hel b t htb
     subst hao
     have zb:(b:Int) < (st'.txns.length:Int):=by have:=(List.getElem?_eq_some_iff.1 htb).1; omega
     have nb:decide ((b:Int) < 0)=false:=by simp
     have hrt':=rangeAt_below hrt hb hbt
     have t0:wr.cell? ⟨bt,b*19,none⟩=some (.int .i64 t.who.1):=hrt' 0 _ rfl
     have t1:wr.cell? ⟨bt,b*19+1,none⟩=some (.int .i64 t.who.2.1):=hrt' 1 _ rfl
     have t2:wr.cell? ⟨bt,b*19+2,none⟩=some (.int .i64 t.who.2.2):=hrt' 2 _ rfl
     have d4:=cell_later hb c4
     have l0:w.heap.size < wr.heap.size:=by omega
     have hex:Hid (∃ u∈st'.txns,u.who=t.who):=⟨t,List.mem_of_getElem? htb,rfl⟩
     have hAB:Below wr.heap.size wr (wr.alloc (.cells #[.int .i64 t.who.1,.int .i64 t.who.2.1,.int .i64 t.who.2.2] 28)):=(Below.refl _ _).alloc (Nat.le_refl _) _
     have hAN:Hid ((wr.alloc (.cells #[.int .i64 t.who.1,.int .i64 t.who.2.1,.int .i64 t.who.2.2] 28)).heap[wr.heap.size]?=some (.cells #[.int .i64 t.who.1,.int .i64 t.who.2.1,.int .i64 t.who.2.2] 28 (0,0))):=heap_alloc_new wr _
     by_cases hx:t.who=x
     ·have hs:sameW t.who.1 t.who.2.1 t.who.2.2 x.1 x.2.1 x.2.2=true:=sameW_t hx
      have Hf:Hid (st.ringsT x=((st'.ends t.who true 0).againT,⟨2,2,[]⟩)):=by unfold Hid; rw [← HE'.out]; exact ringsT_self hrk htb hx
      clear hel hrk hrt hrt' htb hx
      go_wp2_with fail
      refine (sameWho_is hs _).mono ?_
      rintro e w2 ⟨rfl,hb2⟩
      have hB2:Below wr.heap.size wr w2:=hAB.trans (hb2.mono hAB.size)
      have hN2:w2.heap[wr.heap.size]?=some (.cells #[.int .i64 t.who.1,.int .i64 t.who.2.1,.int .i64 t.who.2.2] 28 (0,0)):=by rw [hb2.block _ (by simp)]; exact hAN.out
      obtain ⟨m0,m1,m2,_,_,_⟩:=ans_cells hN2
      have hz2:=hB2.size
      clear hN2 hb2
      go_wp2_with fail
      refine (end_any r st' own' t.who true 0 _ (HRw.out.below hB2) HF'.out hex.out).mono ?_
      rintro e w3 ⟨rfl,own3,hrep3,hchg3⟩
      go_wp2_with fail
      refine (again_any r _ own3 _ hrep3 (HF'.out.ends t.who true 0) hNb).mono ?_
      rintro e w4 ⟨rfl,own4,hrep4,hchg4⟩
      have hn3:own3 (w.heap.size+1)=none:=hchg3.none' hnR (by omega)
      have hn4:own4 (w.heap.size+1)=none:=hchg4.none' hn3 (by have:=hchg3.size; omega)
      have hR4:w4.heap[w.heap.size+1]?=some (.cells #[.int .i64 0,.int .i64 0,.slice none 0 0] 66 (0,0)):=by
       rw [hchg4.block _ (by have:=hchg3.size; omega) hn3,hchg3.block _ (by omega) hnR,hB2.block _ (by omega)]; exact hRr.out
      obtain ⟨e0,e1,e2,f0,f1,f2⟩:=ans_cells hR4
      have HS:Hid (type_of% (ans_stored (.int .i64 2) (.int .i64 2) (.slice none 0 0) hR4)):=ans_stored (.int .i64 2) (.int .i64 2) (.slice none 0 0) hR4
      have hC4:=((hCh.out.trans (Chg.of_below hB2)).trans hchg3).trans hchg4
      have HP:Hid (type_of% (ans_out 2 2 hrep4 hC4 hn4 (show w.heap.size≤w.heap.size+1 by omega))):=ans_out 2 2 hrep4 hC4 hn4 (by omega)
      clear hR4 hrep3 hchg3 hrep4 hchg4 hC4
      go_wp2
      exact ret_ans Try.results115 rfl HS.out rfl (by rw [Hf.out]; exact HP.out)
     ·have hs:sameW t.who.1 t.who.2.1 t.who.2.2 x.1 x.2.1 x.2.2=false:=sameW_f hx
      have Hf:Hid (st'.ringsT x=(st'.ends t.who true 2).againT.ringsT x):=ringsT_other hrk htb hx
      have HLT:Hid ((st'.ends t.who true 2).againT.txns.length < st'.txns.length):=ring_lt htb
      clear hel hrk hrt hrt' htb hx
      go_wp2_with fail
      refine (sameWho_is hs _).mono ?_
      rintro e w2 ⟨rfl,hb2⟩
      have hB2:Below wr.heap.size wr w2:=hAB.trans (hb2.mono hAB.size)
      have hN2:w2.heap[wr.heap.size]?=some (.cells #[.int .i64 t.who.1,.int .i64 t.who.2.1,.int .i64 t.who.2.2] 28 (0,0)):=by rw [hb2.block _ (by simp)]; exact hAN.out
      obtain ⟨m0,m1,m2,_,_,_⟩:=ans_cells hN2
      clear hN2 hb2
      go_wp2_with fail
      refine (end_any r st' own' t.who true 2 _ (HRw.out.below hB2) HF'.out hex.out).mono ?_
      rintro e w3 ⟨rfl,own3,hrep3,hchg3⟩
      go_wp2_with fail
      refine (again_any r _ own3 _ hrep3 (HF'.out.ends t.who true 2) hNb).mono ?_
      rintro e w4 ⟨rfl,own4,hrep4,hchg4⟩
      have HI4:Hid (RgInv N own wA r st x w4):=⟨_,own4,hrep4,(HF'.out.ends t.who true 2).againT,((hCa.out.trans (Chg.of_below hB2)).trans hchg3).trans hchg4,by rw [← Hf.out]; exact HE'.out⟩
      have HM4:Hid (txLen r w4 < txLen r wo):=by unfold Hid; rw [hrep4.txLen,HW'.out]; exact HLT.out
      clear hrep3 hchg3 hrep4 hchg4
      go_wp2
      go_roundw
      case rel=>exact HI4
      case measure=>exact HM4.out
theorem Mem.clock_set {w:World} {r:Nat} {st:RS} {own:Own} {g:Gh} {vp vt vr ve:Value} (P:Mem w r st own g vp vt vr ve) (n:Int) :
  Mem (w.setCell ⟨r,8,none⟩ (.int .i64 n)) r { st with clock:=n } own g vp vt vr ve:=by
 have k:∀ c t,own c=some t→t≠(1,0,0,0)→(w.setCell ⟨r,8,none⟩ (.int .i64 n)).heap[c]?=w.heap[c]?:=fun c t hc hne=>heap_setCell_ne _ _ _ _ _ (fun e=>by rw [e,P.rootTag] at hc; exact hne (Option.some.inj hc).symm)
 exact {
  root:=by have:=heap_setCell_same w r 8 _ _ (.int .i64 n) P.root; simpa using this
  rootTag:=P.rootTag
  places:=P.places.frame (fun c hc=>k c _ hc (by decide)) (fun _ h=>h)
  txns:=P.txns.frame (fun c hc=>k c _ hc (by decide)) (fun _ h=>h)
  recs:=P.recs.frame (fun c hc=>k c _ hc (by decide)) (fun _ h=>h)
  ended:=P.ended.frame (fun c hc=>k c _ hc (by decide)) (fun _ h=>h)
  olds:=fun t ht=>(P.olds t ht).frame (fun c hc=>k c _ hc (by intro h; cases h)) (fun _ h=>h)
  puts:=fun t ht=>(P.puts t ht).frame (fun c hc=>k c _ hc (by intro h; cases h)) (fun _ h=>h)
  told:=fun t ht hr=>(P.told t ht hr).frame (fun c hc=>k c _ hc (by intro h; cases h)) (fun _ h=>h)
  toldV:=P.toldV
  old:=fun c hc=>by have:=P.old c hc; simpa using this }
theorem Mem.rec_app {wr W w1:World} {r:Nat} {st:RS} {own:Own} {g:Gh} {vp vt ve:Value} {ao:Option Addr} {cap gg cap' H:Nat} {x:Rc}
  (P:Mem wr r st own g vp vt (.slice ao st.recs.length cap) ve)
  (hWb:∀ k,k < wr.heap.size→W.heap[k]?=wr.heap[k]?) (hWs:wr.heap.size≤W.heap.size) (hWo:W.os=wr.os) (hWt:W.tape=wr.tape) (hWp:W.output=wr.output)
  (hgrow:W.grownBy w1 (Value.slice ao st.recs.length cap).ownBlock)
  (hown1:w1.ownsRow 0 108 10 (.slice (some ⟨gg,0,none⟩) (st.recs.length+1) cap') (st.recs.length+1) (st.recs.flatMap recC++recC x))
  (hat:(Value.slice ao st.recs.length cap).ownBlock=some gg∨gg=H) (hH:wr.heap.size≤H) (hlt:gg < w1.heap.size) :
  ∃ own',Rep (w1.setCell ⟨r,5,none⟩ (.slice (some ⟨gg,0,none⟩) (st.recs.length+1) cap')) r { st with recs:=st.recs++[x] } own' ∧
   Chg own wr (w1.setCell ⟨r,5,none⟩ (.slice (some ⟨gg,0,none⟩) (st.recs.length+1) cap')) own':=by
 obtain ⟨hchg,hkeep,hroot',hrow',hold'⟩:=grow_root (j:=5) (H:=H) (x:=x) (f:=recC) P.root P.rootTag (t0:=(4,0,0,0)) (by decide) P.old P.recs.2 hWb hWs hWo hWt hWp hgrow hown1 hat hH hlt
 refine ⟨_,⟨g,vp,vt,.slice (some ⟨gg,0,none⟩) (st.recs.length+1) cap',ve,?_⟩,hchg⟩
 exact {
  root:=by simpa using hroot'
  rootTag:=hchg.ext _ _ P.rootTag
  places:=P.places.frame (fun b hb=>hkeep b _ hb (by decide) (by decide)) (fun b hb=>hchg.ext b _ hb)
  txns:=P.txns.frame (fun b hb=>hkeep b _ hb (by decide) (by decide)) (fun b hb=>hchg.ext b _ hb)
  recs:=by
   have e:(st.recs++[x]).length=st.recs.length+1:=by simp
   exact hrow'
  ended:=P.ended.frame (fun b hb=>hkeep b _ hb (by decide) (by decide)) (fun b hb=>hchg.ext b _ hb)
  olds:=fun t ht=>(P.olds t ht).frame (fun b hb=>hkeep b _ hb (by intro h; cases h) (by intro h; cases h)) (fun b hb=>hchg.ext b _ hb)
  puts:=fun t ht=>(P.puts t ht).frame (fun b hb=>hkeep b _ hb (by intro h; cases h) (by intro h; cases h)) (fun b hb=>hchg.ext b _ hb)
  told:=fun t ht hr=>(P.told t ht hr).frame (fun b hb=>hkeep b _ hb (by intro h; cases h) (by intro h; cases h)) (fun b hb=>hchg.ext b _ hb)
  toldV:=P.toldV
  old:=hold' }
def stepW (w:World) (bt n:Nat) (x:Stp):World:=((((((((w.setCell ⟨bt,n*19+6,none⟩ (.int .i64 x.who.1)).setCell ⟨bt,n*19+7,none⟩ (.int .i64 x.who.2.1)).setCell ⟨bt,n*19+8,none⟩ (.int .i64 x.who.2.2)).setCell ⟨bt,n*19+9,none⟩ (.int .i64 x.op)).setCell ⟨bt,n*19+10,none⟩ (.int .i64 x.at_.1)).setCell ⟨bt,n*19+11,none⟩ (.int .i64 x.at_.2)).setCell ⟨bt,n*19+12,none⟩ (.int .i64 x.key)).setCell ⟨bt,n*19+13,none⟩ (.int .i64 x.to_)).setCell ⟨bt,n*19+14,none⟩ (.int .i64 x.value)
theorem stepW_heap {w:World} {bt n:Nat} {x:Stp} {k:Nat} (h:k≠bt):(stepW w bt n x).heap[k]?=w.heap[k]?:=by
 unfold stepW
 rw [heap_setCell_ne _ _ _ _ _ h,heap_setCell_ne _ _ _ _ _ h,heap_setCell_ne _ _ _ _ _ h,heap_setCell_ne _ _ _ _ _ h,heap_setCell_ne _ _ _ _ _ h,heap_setCell_ne _ _ _ _ _ h,heap_setCell_ne _ _ _ _ _ h,heap_setCell_ne _ _ _ _ _ h,heap_setCell_ne _ _ _ _ _ h]
theorem stepW_size {w:World} {bt n:Nat} {x:Stp}:(stepW w bt n x).heap.size=w.heap.size:=by unfold stepW; simp
theorem stepW_chg {own:Own} {w:World} {bt n:Nat} {x:Stp} {t:Tag} (h:own bt=some t):Chg own w (stepW w bt n x) own :=
 (((((((((Chg.cell h).trans (Chg.cell h)).trans (Chg.cell h)).trans (Chg.cell h)).trans (Chg.cell h)).trans (Chg.cell h)).trans (Chg.cell h)).trans (Chg.cell h)).trans (Chg.cell h))
theorem Mem.step_set {w:World} {r:Nat} {st:RS} {own:Own} {g:Gh} {vp vr ve:Value} {bt cap n:Nat} {t:Tx} {x:Stp}
  (P:Mem w r st own g vp (.slice (some ⟨bt,0,none⟩) st.txns.length cap) vr ve) (hn:st.txns[n]?=some t) :
  Mem (stepW w bt n x) r { st with txns:=st.txns.set n { t with step:=x } } own g vp (.slice (some ⟨bt,0,none⟩) st.txns.length cap) vr ve:=by
 have hbo:own bt=some (3,0,0,0):=P.txns.2 bt rfl
 have k:∀ c t',own c=some t'→t'≠(3,0,0,0)→(stepW w bt n x).heap[c]?=w.heap[c]?:=fun c t' hc hne=>stepW_heap (fun e=>by rw [e,hbo] at hc; exact hne (Option.some.inj hc).symm)
 have hlt:n < st.txns.length:=(List.getElem?_eq_some_iff.1 hn).1
 have htx:Row (stepW w bt n x) own (3,0,0,0) 162 19 (.slice (some ⟨bt,0,none⟩) st.txns.length cap) (st.txns.set n { t with step:=x }) (txnC g):=by
  obtain ⟨t1,ht1⟩:∃ t':Tx,t'={ t with step:=⟨(x.who.1,t.step.who.2.1,t.step.who.2.2),t.step.op,(t.step.at_.1,t.step.at_.2),t.step.key,t.step.to_,t.step.value⟩ }:=⟨_,rfl⟩
  obtain ⟨t2,ht2⟩:∃ t':Tx,t'={ t with step:=⟨(x.who.1,x.who.2.1,t.step.who.2.2),t.step.op,(t.step.at_.1,t.step.at_.2),t.step.key,t.step.to_,t.step.value⟩ }:=⟨_,rfl⟩
  obtain ⟨t3,ht3⟩:∃ t':Tx,t'={ t with step:=⟨(x.who.1,x.who.2.1,x.who.2.2),t.step.op,(t.step.at_.1,t.step.at_.2),t.step.key,t.step.to_,t.step.value⟩ }:=⟨_,rfl⟩
  obtain ⟨t4,ht4⟩:∃ t':Tx,t'={ t with step:=⟨(x.who.1,x.who.2.1,x.who.2.2),x.op,(t.step.at_.1,t.step.at_.2),t.step.key,t.step.to_,t.step.value⟩ }:=⟨_,rfl⟩
  obtain ⟨t5,ht5⟩:∃ t':Tx,t'={ t with step:=⟨(x.who.1,x.who.2.1,x.who.2.2),x.op,(x.at_.1,t.step.at_.2),t.step.key,t.step.to_,t.step.value⟩ }:=⟨_,rfl⟩
  obtain ⟨t6,ht6⟩:∃ t':Tx,t'={ t with step:=⟨(x.who.1,x.who.2.1,x.who.2.2),x.op,(x.at_.1,x.at_.2),t.step.key,t.step.to_,t.step.value⟩ }:=⟨_,rfl⟩
  obtain ⟨t7,ht7⟩:∃ t':Tx,t'={ t with step:=⟨(x.who.1,x.who.2.1,x.who.2.2),x.op,(x.at_.1,x.at_.2),x.key,t.step.to_,t.step.value⟩ }:=⟨_,rfl⟩
  obtain ⟨t8,ht8⟩:∃ t':Tx,t'={ t with step:=⟨(x.who.1,x.who.2.1,x.who.2.2),x.op,(x.at_.1,x.at_.2),x.key,x.to_,t.step.value⟩ }:=⟨_,rfl⟩
  obtain ⟨t9,ht9⟩:∃ t':Tx,t'={ t with step:=⟨(x.who.1,x.who.2.1,x.who.2.2),x.op,(x.at_.1,x.at_.2),x.key,x.to_,x.value⟩ }:=⟨_,rfl⟩
  have h1:=P.txns.set (len_txnC g) (k:=n) (j:=6) (x:=t) (x':=t1) (u:=.int .i64 x.who.1) hn (by decide) (by rw [ht1]; simp [txnC,stepC])
  rw [show st.txns.length=(st.txns.set n t1).length by simp] at h1
  have h2:=h1.set (len_txnC g) (k:=n) (j:=7) (x:=t1) (x':=t2) (u:=.int .i64 x.who.2.1) (by rw [List.getElem?_set_self hlt]) (by decide) (by rw [ht1,ht2]; simp [txnC,stepC])
  rw [List.set_set,show (st.txns.set n t1).length=(st.txns.set n t2).length by simp] at h2
  have h3:=h2.set (len_txnC g) (k:=n) (j:=8) (x:=t2) (x':=t3) (u:=.int .i64 x.who.2.2) (by rw [List.getElem?_set_self hlt]) (by decide) (by rw [ht2,ht3]; simp [txnC,stepC])
  rw [List.set_set,show (st.txns.set n t2).length=(st.txns.set n t3).length by simp] at h3
  have h4:=h3.set (len_txnC g) (k:=n) (j:=9) (x:=t3) (x':=t4) (u:=.int .i64 x.op) (by rw [List.getElem?_set_self hlt]) (by decide) (by rw [ht3,ht4]; simp [txnC,stepC])
  rw [List.set_set,show (st.txns.set n t3).length=(st.txns.set n t4).length by simp] at h4
  have h5:=h4.set (len_txnC g) (k:=n) (j:=10) (x:=t4) (x':=t5) (u:=.int .i64 x.at_.1) (by rw [List.getElem?_set_self hlt]) (by decide) (by rw [ht4,ht5]; simp [txnC,stepC])
  rw [List.set_set,show (st.txns.set n t4).length=(st.txns.set n t5).length by simp] at h5
  have h6:=h5.set (len_txnC g) (k:=n) (j:=11) (x:=t5) (x':=t6) (u:=.int .i64 x.at_.2) (by rw [List.getElem?_set_self hlt]) (by decide) (by rw [ht5,ht6]; simp [txnC,stepC])
  rw [List.set_set,show (st.txns.set n t5).length=(st.txns.set n t6).length by simp] at h6
  have h7:=h6.set (len_txnC g) (k:=n) (j:=12) (x:=t6) (x':=t7) (u:=.int .i64 x.key) (by rw [List.getElem?_set_self hlt]) (by decide) (by rw [ht6,ht7]; simp [txnC,stepC])
  rw [List.set_set,show (st.txns.set n t6).length=(st.txns.set n t7).length by simp] at h7
  have h8:=h7.set (len_txnC g) (k:=n) (j:=13) (x:=t7) (x':=t8) (u:=.int .i64 x.to_) (by rw [List.getElem?_set_self hlt]) (by decide) (by rw [ht7,ht8]; simp [txnC,stepC])
  rw [List.set_set,show (st.txns.set n t7).length=(st.txns.set n t8).length by simp] at h8
  have h9:=h8.set (len_txnC g) (k:=n) (j:=14) (x:=t8) (x':=t9) (u:=.int .i64 x.value) (by rw [List.getElem?_set_self hlt]) (by decide) (by rw [ht8,ht9]; simp [txnC,stepC])
  rw [List.set_set,show (st.txns.set n t8).length=(st.txns.set n t9).length by simp] at h9
  rw [show (st.txns.set n t9).length=st.txns.length by simp] at h9
  have e9:t9={ t with step:=x }:=by rw [ht9]
  rw [← e9]; exact h9
 have hmem:∀ u∈st.txns.set n { t with step:=x },∃ u'∈st.txns,u'.who=u.who∧u'.olds=u.olds∧u'.puts=u.puts∧u'.ready=u.ready∧u'.told=u.told:=by
  intro u hu
  rcases List.mem_or_eq_of_mem_set hu with h | rfl
  ·exact ⟨u,h,rfl,rfl,rfl,rfl,rfl⟩
  ·exact ⟨t,List.mem_of_getElem? hn,rfl,rfl,rfl,rfl,rfl⟩
 exact {
  root:=by rw [k r _ P.rootTag (by decide)]; exact P.root
  rootTag:=P.rootTag
  places:=P.places.frame (fun c hc=>k c _ hc (by decide)) (fun _ h=>h)
  txns:=htx
  recs:=P.recs.frame (fun c hc=>k c _ hc (by decide)) (fun _ h=>h)
  ended:=P.ended.frame (fun c hc=>k c _ hc (by decide)) (fun _ h=>h)
  olds:=fun u hu=>by
   obtain ⟨u',h1,h2,h3,_⟩:=hmem u hu
   rw [← h2,← h3]; exact (P.olds u' h1).frame (fun c hc=>k c _ hc (by intro h; cases h)) (fun _ h=>h)
  puts:=fun u hu=>by
   obtain ⟨u',h1,h2,_,h4,_⟩:=hmem u hu
   rw [← h2,← h4]; exact (P.puts u' h1).frame (fun c hc=>k c _ hc (by intro h; cases h)) (fun _ h=>h)
  told:=fun u hu hr=>by
   obtain ⟨u',h1,h2,_,_,h5,h6⟩:=hmem u hu
   rw [← h2,← h6]; exact (P.told u' h1 (by rw [h5]; exact hr)).frame (fun c hc=>k c _ hc (by intro h; cases h)) (fun _ h=>h)
  toldV:=fun u hu=>by
   obtain ⟨u',h1,h2,_⟩:=hmem u hu
   rw [← h2]; exact P.toldV u' h1
  old:=fun c hc=>by have:=P.old c hc; rw [stepW_size]; exact this }
theorem ownsRow_chg {own own':Own} {w w':World} {B e size n:Nat} {v:Value} {xs:List Value} (h:w.ownsRow B e size v n xs) (hc:Chg own w w' own') (hv:∀ b,v.ownBlock=some b→own b=none):w'.ownsRow B e size v n xs:=by
 have hlt:=fun b hb=>(h.lt b hb).2
 obtain ⟨hl,ho⟩:=h
 refine ⟨hl,?_⟩
 rcases ho with h | ⟨b,c,d,e1,e2,e3,e4⟩
 ·exact .inl h
 ·have hb:v.ownBlock=some b:=by rw [e1]; rfl
  exact .inr ⟨b,c,d,e1,e2,by rw [hc.block b (hlt b hb) (hv b hb)]; exact e3,e4⟩
end Go.Proofs.Ytpbcplfpjcacfaa
