import Derived.Test.YtpbcplfpjcacfaaF09
namespace Go.Proofs.Ytpbcplfpjcacfaa
open Go.RowKit
set_option maxRecDepth 100000
set_option maxHeartbeats 8000000
theorem tellEnd_is {w:World} {p q n:Nat} {s:PS} {own:Own} {G:PG} (m:PMem w p s own G) (hq:q < 32) (hn:n < 4) :
  Calls Try.prog 52 #[.pointer (some ⟨p,tO q+32+n*79,none⟩)] w (AQ own w p (s.untold q n) ⟨2,((s.t q).ses n).ended,[]⟩):=by
 have M:Hid (PMem w p s own G):=m
 have hp:=m.lt
 have he:=ses_ended (m.sesAt hq hn)
 have hf:=m.froz (tO q+32+n*79+78)
 clear m
 go_enter Try.func52,Try.ntmps52
 go_wp2
 have h1:=M.out.put1 hq hn { (s.t q).ses n with ended:=0 } (by decide) (sesC_ended _ _ _) rfl rfl
 exact bodyPost_ret (v:=.agg #[.int .i64 2,.int .i64 ((s.t q).ses n).ended,.slice none 0 0]) (by simp [results,Try.results52,go_sem]) rfl ((PMem.went' h1).alloc _ |>.plain _ _)
def Own.drop2 (own:Own) (t u:Tag):Own:=fun b=>if own b=some t∨own b=some u then none else own b
theorem drop2_keep {own:Own} {t u:Tag} {k:Nat} {x:Tag} (h:own k=some x) (h1:x≠t) (h2:x≠u):own.drop2 t u k=some x:=by
 unfold Own.drop2
 rw [if_neg,h]
 rintro (e | e)
 ·rw [h] at e; exact h1 (Option.some.inj e)
 ·rw [h] at e; exact h2 (Option.some.inj e)
theorem drop2_sub {own:Own} {t u:Tag} {k:Nat} {x:Tag} (h:own.drop2 t u k=some x):own k=some x:=by
 unfold Own.drop2 at h
 split at h
 ·cases h
 ·exact h
theorem drop2_off {own:Own} {t u:Tag} {k:Nat} (h:own k=some t∨own k=some u):own.drop2 t u k=none:=by
 unfold Own.drop2; rw [if_pos h]
theorem nilRow {α:Type} (w:World) (own:Own) (tag:Tag) (e size:Nat) (f:α→List Value):Row w own tag e size (.slice none 0 0) ([]:List α) f :=
 ⟨World.ownsRow_nil w 0 e size,fun b hb=>by cases hb⟩
theorem sesC_out (s:Ses) (g:SG) (a:Ans) (v:Value):∃ A Z,sesC s g=A++(outC s.out g.2++Z)∧sesC { s with out:=a } (g.1,v)=A++(outC a v++Z)∧A.length=75 :=
 ⟨[g.1]++(wrC s.wr++(stepC s.req++[.bool s.came])),[.int .i64 s.ended],by simp [sesC],by simp [sesC],by simp [len_wrC,len_stepC]⟩
theorem tellOut_is {w:World} {p q n:Nat} {s:PS} {own:Own} {G:PG} (m:PMem w p s own G) (hq:q < 32) (hn:n < 4) :
  Calls Try.prog 71 #[.pointer (some ⟨p,tO q+32+n*79,none⟩)] w (AQ own w p (s.heard q n) ((s.t q).ses n).out):=by
 have M:Hid (PMem w p s own G):=m
 have hp:=m.lt
 have h0:=ses_code (m.sesAt hq hn)
 have h1:=ses_why (m.sesAt hq hn)
 have h2:=ses_items (m.sesAt hq hn)
 have h3:=ses_came (m.sesAt hq hn)
 have hf:=m.froz
 obtain ⟨ao,cap,hv,hmax⟩:=(m.outR q hq n hn).lens len_itemC
 rw [hv] at h2
 clear m hv
 have f0:=hf (tO q+32+n*79+75)
 have f1:=hf (tO q+32+n*79+76)
 have f2:=hf (tO q+32+n*79+77)
 have f3:=hf (tO q+32+n*79+74)
 clear hf
 go_enter Try.func71,Try.ntmps71
 go_wp2
 obtain ⟨A,Z,e1,e2,e3⟩:=sesC_out ((s.t q).ses n) (G.s q n) ⟨0,0,[]⟩ (.slice none 0 0)
 have hkp:∀ k t,own k=some t→t≠lockTag q n→t≠outTag q n→own.drop2 (outTag q n) (outTag q n) k=some t:=fun k t hk _ h2=>drop2_keep hk h2 h2
 have hlk:Row w (own.drop2 (outTag q n) (outTag q n)) (lockTag q n) 148 5 (G.s q n).1 ((s.t q).ses n).locks lkC :=
  (M.out.lockR q hq n hn).frame (fun _ _=>rfl) (fun k hk=>drop2_keep hk (by intro c; simp [lockTag,outTag] at c) (by intro c; simp [lockTag,outTag] at c))
 obtain ⟨m1,c1⟩:=M.out.putSes hq hn { (s.t q).ses n with out:=⟨0,0,[]⟩ } ((G.s q n).1,.slice none 0 0) 75 (outC ⟨0,0,[]⟩ (.slice none 0 0)) e1 e2 e3 rfl hkp (fun k t h=>drop2_sub h) hlk (nilRow _ _ _ _ _ _)
 have hw3:w.setCells p (sO q n+75) (outC ⟨0,0,[]⟩ (.slice none 0 0))=((w.setCell ⟨p,tO q+32+n*79+75,none⟩ (.int .i64 0)).setCell ⟨p,tO q+32+n*79+75+1,none⟩ (.int .i64 0)).setCell ⟨p,tO q+32+n*79+75+2,none⟩ (.slice none 0 0):=rfl
 rw [hw3] at m1 c1
 clear hw3
 have h4:=m1.put1 hq hn { (s.t q).ses n with out:=⟨0,0,[]⟩,came:=false } (i:=74) (v:=.bool false) (by decide) (by rw [setS_at,PG.setS_at,← sesC_came]) (by rw [setS_at]) (by rw [setS_at])
 rw [setS_setS] at h4
 obtain ⟨m2,c2⟩:=h4
 have hR:=M.out.outR q hq n hn
 have hvv:(G.s q n).2=.slice ao ((s.t q).ses n).out.items.length cap:=by
  have:=ses_items (M.out.sesAt hq hn)
  rw [h2] at this
  exact (Option.some.inj this).symm
 rw [hvv] at hR
 have hne:∀ b,(Value.slice ao ((s.t q).ses n).out.items.length cap).ownBlock=some b→b≠p∧own b=some (outTag q n):=fun b hb=>by
  have:=hR.2 b hb
  refine ⟨fun e=>?_,this⟩
  rw [e,M.out.tag] at this
  simp [rootTag,outTag] at this
 refine bodyPost_ret (v:=.agg #[.int .i64 ((s.t q).ses n).out.code,.int .i64 ((s.t q).ses n).out.why,.slice ao ((s.t q).ses n).out.items.length cap]) (by simp [results,Try.results71,go_sem]) rfl ?_
 refine ⟨.slice ao ((s.t q).ses n).out.items.length cap,_,_,rfl,?_,m2.below (((Below.refl _ _).alloc (Nat.le_refl _) _).alloc (by simp) _),(c1.trans c2).trans (ChgQ.of_below (((Below.refl _ _).alloc (Nat.le_refl _) _).alloc (by simp) _)),?_⟩
 ·refine ownsRow_below (ownsRow_below (ownsRow_frame (w:=w) hR.1 (fun b hb=>?_)) ((Below.refl _ _).alloc (Nat.le_refl _) _)) ((Below.refl _ _).alloc (Nat.le_refl _) _)
  rw [heap_setCell_ne _ _ _ _ _ (hne b hb).1,heap_setCell_ne _ _ _ _ _ (hne b hb).1,heap_setCell_ne _ _ _ _ _ (hne b hb).1,heap_setCell_ne _ _ _ _ _ (hne b hb).1]
 ·intro b hb
  exact ⟨drop2_off (.inl (hne b hb).2),.inl ⟨by rw [(hne b hb).2]; simp,fun x=>by rw [(hne b hb).2]; simp [outTag]⟩⟩
def Own.swap (own:Own) (v:Value) (t:Tag):Own:=fun b=>if v.ownBlock=some b then some t else if own b=some t then none else own b
theorem swap_keep {own:Own} {v:Value} {t x:Tag} {k N:Nat} (hv:∀ b,v.ownBlock=some b→N≤b) (hk:k < N) (h:own k=some x) (hx:x≠t):own.swap v t k=some x:=by
 unfold Own.swap
 rw [if_neg (fun e=>by have:=hv k e; omega),if_neg (fun e=>hx (Option.some.inj (h.symm.trans e))),h]
theorem swap_sub {own:Own} {v:Value} {t:Tag} {k:Nat} (h:own.swap v t k≠none):own k≠none∨v.ownBlock=some k:=by
 unfold Own.swap at h
 split at h
 ·rename_i e; exact .inr e
 ·split at h
  ·exact absurd rfl h
  ·exact .inl h
section
variable {w w1:World} {p q:Nat} {s:PS} {own:Own} {G:PG} {v:Value} {l:List Nat}
theorem PMem.newBeg (m:PMem w p s own G) (hq:q < 32) (hb:Below w.heap.size w w1) (hv:w1.ownsRow w.heap.size 3 1 v l.length (l.flatMap natC)):PMem (w1.setCell ⟨p,tO q+348,none⟩ v) p (s.setB q l) (own.swap v (begTag q)) (G.setB q v)∧ChgQ own w (w1.setCell ⟨p,tO q+348,none⟩ v) (own.swap v (begTag q)):=by
 have hlo:∀ b,v.ownBlock=some b→w.heap.size≤b:=fun b h=>(hv.lt b h).1
 have hhi:∀ b,v.ownBlock=some b→b < w1.heap.size:=fun b h=>(hv.lt b h).2
 have hp:=m.lt
 have hsame:∀ k,k < w.heap.size→k≠p→(w1.setCell ⟨p,tO q+348,none⟩ v).heap[k]?=w.heap[k]?:=fun k hk hne=>by rw [heap_setCell_ne _ _ _ _ _ hne,hb.block k hk]
 have m1:=m.below hb
 obtain ⟨C,hC,hCz⟩:=m1.root
 have hC':=heap_setCell_same w1 p (tO q+348) C _ v hC
 have hlt:∀ k t,own k=some t→k < w.heap.size:=fun k t h=>m.old k (by rw [h]; simp)
 have hold:∀ k,own.swap v (begTag q) k≠none→k < (w1.setCell ⟨p,tO q+348,none⟩ v).heap.size:=fun k hk=>by
  rw [World.size_setCell]
  rcases swap_sub hk with h | h
  ·exact Nat.lt_of_lt_of_le (m.old k h) hb.size
  ·exact hhi k h
 refine ⟨m.setBeg hq l v (fun k t h hne=>⟨swap_keep hlo (hlt k t h) h hne,fun ht=>hsame k (hlt k t h) (fun e=>by rw [e,m.tag] at h; exact ht (Option.some.inj h).symm)⟩) ⟨_,hC',by simp [hCz]⟩ ?_ ?_ ?_ hold,?_⟩
 ·rw [cell_of_row _ _ _ _ _ _ hC']
  have:tO q+348 < C.size:=by rw [hCz]; unfold tO; omega
  simp [this]
 ·intro o ho
  rw [cell_of_row _ _ _ _ _ _ hC',cell_of_same (hb.block p hp) o |>.symm,cell_of_row _ _ _ _ _ _ hC]
  simp [Ne.symm ho]
 ·refine ⟨ownsRow_frame (ownsRow_lower hv (Nat.zero_le _)) (fun b hb'=>heap_setCell_ne _ _ _ _ _ (fun e=>by have:=hlo b hb'; omega)),fun b hb'=>?_⟩
  unfold Own.swap; rw [if_pos hb']
 ·refine ⟨hb.os,hb.tape,hb.output,by rw [World.size_setCell]; exact hb.size,fun k hk hn=>hsame k hk (fun e=>by rw [e,m.tag] at hn; cases hn),fun k hk=>?_,fun k x hk hx=>⟨hsame k hk (fun e=>by rw [e,m.tag] at hx; simp [rootTag] at hx),.inr (by rw [swap_keep hlo hk hx (by intro c; simp [begTag] at c),hx])⟩⟩
  rcases swap_sub hk with h | h
  ·exact .inl h
  ·exact .inr (hlo k h)
theorem PMem.newQue (m:PMem w p s own G) (hq:q < 32) (hb:Below w.heap.size w w1) (hv:w1.ownsRow w.heap.size 3 1 v l.length (l.flatMap natC)):PMem (w1.setCell ⟨p,tO q+349,none⟩ v) p (s.setQ q l) (own.swap v (queTag q)) (G.setQ q v)∧ChgQ own w (w1.setCell ⟨p,tO q+349,none⟩ v) (own.swap v (queTag q)):=by
 have hlo:∀ b,v.ownBlock=some b→w.heap.size≤b:=fun b h=>(hv.lt b h).1
 have hhi:∀ b,v.ownBlock=some b→b < w1.heap.size:=fun b h=>(hv.lt b h).2
 have hp:=m.lt
 have hsame:∀ k,k < w.heap.size→k≠p→(w1.setCell ⟨p,tO q+349,none⟩ v).heap[k]?=w.heap[k]?:=fun k hk hne=>by rw [heap_setCell_ne _ _ _ _ _ hne,hb.block k hk]
 have m1:=m.below hb
 obtain ⟨C,hC,hCz⟩:=m1.root
 have hC':=heap_setCell_same w1 p (tO q+349) C _ v hC
 have hlt:∀ k t,own k=some t→k < w.heap.size:=fun k t h=>m.old k (by rw [h]; simp)
 have hold:∀ k,own.swap v (queTag q) k≠none→k < (w1.setCell ⟨p,tO q+349,none⟩ v).heap.size:=fun k hk=>by
  rw [World.size_setCell]
  rcases swap_sub hk with h | h
  ·exact Nat.lt_of_lt_of_le (m.old k h) hb.size
  ·exact hhi k h
 refine ⟨m.setQue hq l v (fun k t h hne=>⟨swap_keep hlo (hlt k t h) h hne,fun ht=>hsame k (hlt k t h) (fun e=>by rw [e,m.tag] at h; exact ht (Option.some.inj h).symm)⟩) ⟨_,hC',by simp [hCz]⟩ ?_ ?_ ?_ hold,?_⟩
 ·rw [cell_of_row _ _ _ _ _ _ hC']
  have:tO q+349 < C.size:=by rw [hCz]; unfold tO; omega
  simp [this]
 ·intro o ho
  rw [cell_of_row _ _ _ _ _ _ hC',cell_of_same (hb.block p hp) o |>.symm,cell_of_row _ _ _ _ _ _ hC]
  simp [Ne.symm ho]
 ·refine ⟨ownsRow_frame (ownsRow_lower hv (Nat.zero_le _)) (fun b hb'=>heap_setCell_ne _ _ _ _ _ (fun e=>by have:=hlo b hb'; omega)),fun b hb'=>?_⟩
  unfold Own.swap; rw [if_pos hb']
 ·refine ⟨hb.os,hb.tape,hb.output,by rw [World.size_setCell]; exact hb.size,fun k hk hn=>hsame k hk (fun e=>by rw [e,m.tag] at hn; cases hn),fun k hk=>?_,fun k x hk hx=>⟨hsame k hk (fun e=>by rw [e,m.tag] at hx; simp [rootTag] at hx),?_⟩⟩
  ·rcases swap_sub hk with h | h
   ·exact .inl h
   ·exact .inr (hlo k h)
  ·by_cases e:(5,x)=queTag q
   ·left
    unfold Own.swap
    rw [if_neg (fun h=>by have:=hlo k h; omega),if_pos (by rw [hx,e])]
   ·exact .inr (by rw [swap_keep hlo hk hx e,hx])
end
theorem built_ses:Try.prog.built 126 []=some (sesC ses0 (.slice none 0 0,.slice none 0 0)).toArray:=by kernel_rfl
theorem size_ses:(Try.prog.info? 126).map (·.size)=some (sesC ses0 (.slice none 0 0,.slice none 0 0)).toArray.size:=by kernel_rfl
theorem ses0_one:(sesC ses0 (.slice none 0 0,.slice none 0 0)).toArray.all (·.oneCell')=true:=all_oneCell_toArray (by decide +kernel)
theorem PMem.newSes {w:World} {p q n:Nat} {s:PS} {own:Own} {G:PG} (m:PMem w p s own G) (hq:q < 32) (hn:n < 4) :
  PMem (w.setCells p (tO q+32+n*79) (sesC ses0 (.slice none 0 0,.slice none 0 0))) p (s.setS q n ses0) (own.drop2 (lockTag q n) (outTag q n)) (G.setS q n (.slice none 0 0,.slice none 0 0))∧ChgQ own w (w.setCells p (tO q+32+n*79) (sesC ses0 (.slice none 0 0,.slice none 0 0))) (own.drop2 (lockTag q n) (outTag q n)) :=
 m.putSes hq hn ses0 (.slice none 0 0,.slice none 0 0) 0 (sesC ses0 (.slice none 0 0,.slice none 0 0)) (A:=[]) (Z:=[]) (M:=sesC ((s.t q).ses n) (G.s q n)) (by simp) (by simp) rfl (by rw [len_sesC,len_sesC]) (fun k t h h1 h2=>drop2_keep h h1 h2) (fun k t h=>drop2_sub h) (nilRow _ _ _ _ _ _) (nilRow _ _ _ _ _ _)
theorem endT_is (s:PS) (q n:Nat):((s.setB q (lsOff (s.t q).begun n)).setQ q (lsOff (s.t q).queue n)).setS q n ses0=s.setT q ((s.t q).endT n):=by
 unfold PS.setS PS.setQ PS.setB
 rw [setT_t,setT_t,setT_setT,setT_setT]
 rfl
theorem ownsRow_form {w:World} {B e size:Nat} {v:Value} {n:Nat} {xs:List Value} (h:w.ownsRow B e size v n xs):∃ ao cap,v=.slice ao n cap:=by
 obtain ⟨_,h⟩:=h
 rcases h with ⟨rfl,rfl⟩ | ⟨b,c,d,rfl,_⟩
 ·exact ⟨_,_,rfl⟩
 ·exact ⟨_,_,rfl⟩
theorem trEnd_is {w:World} {p q n:Nat} {s:PS} {own:Own} {G:PG} (m:PMem w p s own G) (hq:q < 32) (hn:n < 4) (h1:(s.t q).begun.length≤4) (h2:(s.t q).queue.length≤4) :
  Calls Try.prog 94 #[.pointer (some ⟨p,tO q,none⟩),.int .i64 n] w fun e w'=>e=.returned (.tuple #[])∧Moved own w p (s.setT q ((s.t q).endT n)) w':=by
 have M:Hid (PMem w p s own G):=m
 have hp:=m.lt
 have hc:=m.begC hq
 have hf:=m.froz (tO q+348)
 have zn:(n:Int) < 4:=by omega
 clear m
 go_enter Try.func94,Try.ntmps94
 go_wp2_with fail
 refine (without_any own _ _ _ n w (M.out.begR q hq) h1).mono ?_
 rintro e w1 ⟨v1,rfl,hv1,hb1⟩
 obtain ⟨c1,f1⟩:=bcell hb1
 obtain ⟨m2,cg2⟩:=M.out.newBeg hq hb1 hv1
 obtain ⟨ao,cap,rfl⟩:=ownsRow_form hv1
 have M2:Hid (PMem _ _ _ _ _):=m2
 have CG2:Hid (ChgQ _ _ _ _):=cg2
 have e2:((s.setB q (lsOff (s.t q).begun n)).t q).queue=(s.t q).queue:=by rw [setB_t,if_pos rfl]
 have hc2:=m2.queC hq
 have hf2:=m2.froz (tO q+349)
 have hp2:=m2.lt
 clear hv1 hb1 m2 cg2
 generalize hl1:lsOff (s.t q).begun n=l1 at hc2 M2 CG2 e2 hf2 hp2 ⊢
 have HL1:Hid (lsOff (s.t q).begun n=l1):=hl1
 clear hl1
 go_upto_region 1 with fail
 generalize w1.setCell ⟨p,tO q+348,none⟩ (Value.slice ao l1.length cap)=W2 at *
 generalize (G.setB q (Value.slice ao l1.length cap))=G2 at *
 generalize own.swap (Value.slice ao l1.length cap) (begTag q)=own2 at *
 generalize hs2:s.setB q l1=s2 at *
 have HS2:Hid (s.setB q l1=s2):=hs2
 have E2:Hid ((s2.t q).queue=(s.t q).queue):=e2
 clear c1 f1 hc hf hs2 e2
 go_wp2_with fail
 refine (without_any own2 _ _ _ n W2 (M2.out.queR q hq) (by rw [E2.out]; exact h2)).mono ?_
 rintro e w3 ⟨v3,rfl,hv3,hb3⟩
 obtain ⟨c3,f3⟩:=bcell hb3
 obtain ⟨m4,cg4⟩:=M2.out.newQue hq hb3 hv3
 obtain ⟨ao3,cap3,rfl⟩:=ownsRow_form hv3
 have M4:Hid (PMem _ _ _ _ _):=m4
 have CG4:Hid (ChgQ _ _ _ _):=CG2.out.trans cg4
 clear hv3 hb3 m4 cg4 CG2
 go_upto_region 2 with fail
 generalize (w3.setCell ⟨p,tO q+349,none⟩ (Value.slice ao3 (lsOff (s2.t q).queue n).length cap3))=W4 at *
 clear c3 f3 hc2 hf2
 go_wp2_with (first | (refine wpList_build_to rfl 126 _ rfl [] ?hl _ built_ses ?_) | (refine wpList_store_mid rfl 126 _ _ rfl p (tO q+32+n*79) (sesC ses0 (.slice none 0 0,.slice none 0 0)).toArray rfl rfl ?ht size_ses ses0_one ?_))
 case ht =>
  have:=M4.out.sesFits hq hn (i:=0) (k:=79) (by decide)
  rw [Nat.add_zero] at this
  simpa [len_sesC] using this
 refine bodyPost_end (v:=.tuple #[]) (by simp [results,Try.results94,go_sem]) rfl ⟨rfl,?_⟩
 obtain ⟨m5,cg5⟩:=M4.out.newSes hq hn
 have:=endT_is s q n
 rw [HL1.out,HS2.out,← E2.out] at this
 rw [this] at m5
 exact ⟨_,_,m5,CG4.out.trans cg5⟩
theorem forceT_is (s:PS) (q n:Nat) (why:Int):(s.setT q ((s.t q).endT n)).setS q n { ses0 with ended:=why }=s.setT q ((s.t q).forceT n why):=by
 unfold PS.setS Tr.forceT
 rw [setT_t,setT_setT]
theorem endT_ses (t:Tr) (n:Nat):(t.endT n).ses n=ses0:=upd_same _ _ _
theorem force_is {w:World} {p q n:Nat} {why:Int} {s:PS} {own:Own} {G:PG} (m:PMem w p s own G) (hq:q < 32) (hn:n < 4) (h1:(s.t q).begun.length≤4) (h2:(s.t q).queue.length≤4) :
  Calls Try.prog 103 #[.pointer (some ⟨p,tO q,none⟩),.int .i64 n,.int .i64 why] w fun e w'=>e=.returned (.tuple #[])∧Moved own w p (s.setT q ((s.t q).forceT n why)) w':=by
 have M:Hid (PMem w p s own G):=m
 have zn:(n:Int) < 4:=by omega
 clear m
 go_enter Try.func103,Try.ntmps103
 go_wp2_with fail
 refine (trEnd_is M.out hq hn h1 h2).mono ?_
 rintro e w1 ⟨rfl,own1,G1,m1,cg1⟩
 have M1:Hid (PMem _ _ _ _ _):=m1
 have CG1:Hid (ChgQ _ _ _ _):=cg1
 have he:=ses_ended (m1.sesAt hq hn)
 have hf:=m1.froz (tO q+32+n*79+78)
 have hp:=m1.lt
 clear m1 cg1
 go_wp2
 refine bodyPost_end (v:=.tuple #[]) (by simp [results,Try.results103,go_sem]) rfl ⟨rfl,?_⟩
 have e1:((s.setT q ((s.t q).endT n)).t q).ses n=ses0:=by rw [setT_t,endT_ses]
 have h3:=M1.out.put1 hq hn { ses0 with ended:=why } (i:=78) (v:=.int .i64 why) (by decide) (by rw [e1]; exact sesC_ended _ _ _) (by rw [e1]) (by rw [e1])
 rw [forceT_is] at h3
 exact ⟨_,_,h3.1,CG1.out.trans h3.2⟩
theorem built_stp:Try.prog.built 30 []=some (stepC stp0).toArray:=by kernel_rfl
theorem stp_one (x:Stp):(stepC x).toArray.all (·.oneCell')=true:=all_oneCell_toArray (by intro v hv; simp [stepC] at hv; rcases hv with rfl | rfl | rfl | rfl | rfl | rfl | rfl | rfl | rfl<;>rfl)
theorem sesC_req (s:Ses) (g:SG) (x:Stp):∃ A Z,sesC s g=A++(stepC s.req++Z)∧sesC { s with req:=x } g=A++(stepC x++Z)∧A.length=65 :=
 ⟨[g.1]++wrC s.wr,[.bool s.came]++(outC s.out g.2++[.int .i64 s.ended]),by simp [sesC],by simp [sesC],by simp [len_wrC]⟩
theorem PMem.setReq {w:World} {p q n:Nat} {s:PS} {own:Own} {G:PG} (m:PMem w p s own G) (hq:q < 32) (hn:n < 4) (x:Stp) :
  PMem (w.setCells p (tO q+32+n*79+65) (stepC x)) p (s.setS q n { (s.t q).ses n with req:=x }) own (G.setS q n (G.s q n))∧ChgQ own w (w.setCells p (tO q+32+n*79+65) (stepC x)) own:=by
 obtain ⟨A,Z,e1,e2,e3⟩:=sesC_req ((s.t q).ses n) (G.s q n) x
 exact m.putSes hq hn { (s.t q).ses n with req:=x } (G.s q n) 65 (stepC x) e1 e2 e3 rfl (fun _ _ h _ _=>h) (fun _ _ h=>h) (m.lockR q hq n hn) (m.outR q hq n hn)
theorem leaveT_is (s:PS) (q n:Nat):(s.setS q n { (s.t q).ses n with req:=stp0 }).setQ q (lsOff (s.t q).queue n)=s.setT q ((s.t q).leaveT n):=by
 unfold PS.setS PS.setQ
 rw [setT_t,setT_setT]
 rfl
theorem loc_stp {w:World} {b:Nat} {x:Stp} (h:w.heap[b]?=some (.cells (stepC x).toArray 30 (0,0))):w.rangeAt b 0 (stepC x):=fun j u hj=>by
 rw [cell_of_row w b _ _ _ _ h,Nat.zero_add]; simpa using hj
theorem heap_alloc_old {w:World} {o:Obj} {k:Nat} (h:k < w.heap.size):(w.alloc o).heap[k]?=w.heap[k]?:=((Below.refl w.heap.size w).alloc (Nat.le_refl _) o).block k h
theorem leave_is {w:World} {p q n:Nat} {s:PS} {own:Own} {G:PG} (m:PMem w p s own G) (hq:q < 32) (hn:n < 4) (h2:(s.t q).queue.length≤4) :
  Calls Try.prog 104 #[.pointer (some ⟨p,tO q,none⟩),.int .i64 n] w fun e w'=>e=.returned (stepV ((s.t q).ses n).req)∧Moved own w p (s.setT q ((s.t q).leaveT n)) w':=by
 have M:Hid (PMem w p s own G):=m
 have hp:=m.lt
 have hreq:=ses_req (m.sesAt hq hn)
 have zn:(n:Int) < 4:=by omega
 obtain ⟨r0,r1,r2,r3,r4,r5,r6,r7,r8⟩:=stp_cells hreq
 have HNO:Hid (∀ k,w.heap.size≤k→own k=none):=fun k hk=>by
  cases ho:own k with
  | none=>rfl
  | some t=>exact absurd (m.old k (by rw [ho]; simp)) (by omega)
 clear m hreq
 generalize hx:((s.t q).ses n).req=x at *
 have HX:Hid (((s.t q).ses n).req=x):=hx
 clear hx
 go_enter Try.func104,Try.ntmps104
 go_upto_region 2 with fail
 have B1:Hid (Below w.heap.size w ((w.alloc (stpObj stp0)).alloc (stpObj x))):=below2r
 have L0:Hid (((w.alloc (stpObj stp0)).alloc (stpObj x)).heap[w.heap.size]?=some (.cells (stepC stp0).toArray 30 (0,0))):=by
  show _=_
  rw [heap_alloc_old (by simp)]; exact heap_alloc_new w _
 have L1:Hid (((w.alloc (stpObj stp0)).alloc (stpObj x)).heap[w.heap.size+1]?=some (.cells (stepC x).toArray 30 (0,0))):=by
  show _=_
  have:=heap_alloc_new (w.alloc (stpObj stp0)) (stpObj x)
  rw [World.size_alloc] at this
  exact this
 unfold stpObj stp0 at *
 simp only at *
 generalize (w.alloc _).alloc _=W1 at *
 clear r0 r1 r2 r3 r4 r5 r6 r7 r8
 have M1:Hid (PMem W1 p s own G):=M.out.below B1.out
 obtain ⟨m2,cg2⟩:=M1.out.setReq hq hn stp0
 have HT:Hid (W1.there p (tO q+32+n*79+65) 9):=M1.out.sesFits hq hn (by decide)
 have CG2:Hid (ChgQ own w (W1.setCells p (tO q+32+n*79+65) (stepC stp0)) own):=(ChgQ.of_below B1.out).trans cg2
 have M2:Hid (PMem (W1.setCells p (tO q+32+n*79+65) (stepC stp0)) p _ own _):=m2
 have J0:Hid ((W1.setCells p (tO q+32+n*79+65) (stepC stp0)).heap[w.heap.size]?=_):=(setCells_other _ _ _ _ (by omega)).trans L0.out
 have J1:Hid ((W1.setCells p (tO q+32+n*79+65) (stepC stp0)).heap[w.heap.size+1]?=_):=(setCells_other _ _ _ _ (by omega)).trans L1.out
 clear m2 cg2 L0 L1
 go_upto_region 3 with (first | (refine wpList_build_to rfl 30 _ rfl [] ?hl _ built_stp ?_) | (refine wpList_store_mid rfl 30 _ _ rfl p (tO q+32+n*79+65) (stepC stp0).toArray rfl rfl HT.out size_step (stp_one _) ?_))
 generalize W1.setCells p (tO q+32+n*79+65) (stepC stp0)=W2 at *
 have HS2:Hid ((s.setS q n { (s.t q).ses n with req:=stp0 }).setQ q (lsOff (s.t q).queue n)=s.setT q ((s.t q).leaveT n)):=leaveT_is s q n
 have E2:Hid (((s.setS q n { (s.t q).ses n with req:=stp0 }).t q).queue=(s.t q).queue):=by show _=_; unfold PS.setS; rw [setT_t]; rfl
 generalize s.setS q n { (s.t q).ses n with req:=stp0 }=s2 at *
 generalize G.setS q n (G.s q n)=G2 at *
 clear HT M1 B1
 have hp2:=M2.out.lt
 have hc2:=M2.out.queC hq
 have hf2:=M2.out.froz (tO q+349)
 have hsz2:w.heap.size+1 < W2.heap.size:=(Array.getElem?_eq_some_iff.1 J1.out).1
 go_wp2_with fail
 refine (without_any own _ _ _ n W2 (M2.out.queR q hq) (by rw [E2.out]; exact h2)).mono ?_
 rintro e w3 ⟨v3,rfl,hv3,hb3⟩
 obtain ⟨c3,f3⟩:=bcell hb3
 obtain ⟨m4,cg4⟩:=M2.out.newQue hq hb3 hv3
 have R0:Hid ((w3.setCell ⟨p,tO q+349,none⟩ v3).heap[w.heap.size]?=_):=(heap_setCell_ne _ _ _ _ _ (by omega)).trans ((hb3.block _ (by omega)).trans J0.out)
 have R1:Hid ((w3.setCell ⟨p,tO q+349,none⟩ v3).heap[w.heap.size+1]?=_):=(heap_setCell_ne _ _ _ _ _ (by omega)).trans ((hb3.block _ (by omega)).trans J1.out)
 have HO:Hid (∀ k,own.swap v3 (queTag q) k≠none→k < w.heap.size∨w.heap.size+1 < k):=fun k hk=>by
  rcases swap_sub hk with h | h
  ·left
   exact Nat.lt_of_not_le (fun hle=>h (HNO.out k hle))
  ·right
   have:=(hv3.lt k h).1; omega
 obtain ⟨ao3,cap3,rfl⟩:=ownsRow_form hv3
 have M4:Hid (PMem _ _ _ _ _):=m4
 have CG4:Hid (ChgQ _ _ _ _):=CG2.out.trans cg4
 clear hv3 hb3 m4 cg4 CG2 J0 J1
 go_upto_region 4 with fail
 generalize (w3.setCell ⟨p,tO q+349,none⟩ (Value.slice ao3 (lsOff (s2.t q).queue n).length cap3))=W4 at *
 clear c3 f3 hc2 hf2
 obtain ⟨r0,r1,r2,r3,r4,r5,r6,r7,r8⟩:=stp_cells (loc_stp R1.out)
 obtain ⟨z0,z1,z2,z3,z4,z5,z6,z7,z8⟩:=stp_cells (loc_stp R0.out)
 have hf:=fun j=>frozen_of_row W4 w.heap.size j _ _ R0.out
 simp only [Nat.zero_add] at r1 r2 r3 r4 r5 r6 r7 r8 z1 z2 z3 z4 z5 z6 z7 z8
 go_wp2
 have hw5:(((((((((W4.setCell ⟨w.heap.size,0,none⟩ (.int .i64 x.who.1)).setCell ⟨w.heap.size,1,none⟩ (.int .i64 x.who.2.1)).setCell ⟨w.heap.size,2,none⟩ (.int .i64 x.who.2.2)).setCell ⟨w.heap.size,3,none⟩ (.int .i64 x.op)).setCell ⟨w.heap.size,4,none⟩ (.int .i64 x.at_.1)).setCell ⟨w.heap.size,5,none⟩ (.int .i64 x.at_.2)).setCell ⟨w.heap.size,6,none⟩ (.int .i64 x.key)).setCell ⟨w.heap.size,7,none⟩ (.int .i64 x.to_)).setCell ⟨w.heap.size,8,none⟩ (.int .i64 x.value))=W4.setCells w.heap.size 0 (stepC x):=rfl
 refine bodyPost_ret (v:=stepV x) (by simp [results,Try.results104,go_sem,stepV,z0,z1,z2,z3,z4,z5,z6,z7,z8]) rfl ⟨rfl,?_⟩
 rw [hw5]
 have hno:own.swap (Value.slice ao3 (lsOff (s2.t q).queue n).length cap3) (queTag q) w.heap.size=none:=by
  cases ho:own.swap (Value.slice ao3 (lsOff (s2.t q).queue n).length cap3) (queTag q) w.heap.size with
  | none=>rfl
  | some t =>
   have:=HO.out w.heap.size (by rw [ho]; simp)
   omega
 have m5:=M4.out.free (o:=0) hno (stepC x)
 rw [show s2.setQ q (lsOff (s2.t q).queue n)=s.setT q ((s.t q).leaveT n) by rw [← HS2.out,E2.out]] at m5
 exact ⟨_,_,m5,CG4.out.free (Nat.le_refl _) _⟩
section
variable {w W w1:World} {p q gg cap' H:Nat} {s:PS} {own:Own} {G:PG}
theorem PMem.appBeg (m:PMem w p s own G) (hq:q < 32) (hWb:∀ k,k < w.heap.size→W.heap[k]?=w.heap[k]?) (hWs:w.heap.size≤W.heap.size) (hWo:W.os=w.os) (hWt:W.tape=w.tape) (hWp:W.output=w.output) {x:Nat} (hgrow:W.grownBy w1 (G.b q).ownBlock) (hown1:w1.ownsRow 0 3 1 (.slice (some ⟨gg,0,none⟩) ((s.t q).begun.length+1) cap') ((s.t q).begun.length+1) ((s.t q).begun.flatMap natC++natC x))
  (hat:(G.b q).ownBlock=some gg∨gg=H) (hH:w.heap.size≤H) (hlt:gg < w1.heap.size) :
  PMem (w1.setCell ⟨p,tO q+348,none⟩ (.slice (some ⟨gg,0,none⟩) ((s.t q).begun.length+1) cap')) p (s.setB q ((s.t q).begun++[x])) (ownAdd own gg (begTag q)) (G.setB q (.slice (some ⟨gg,0,none⟩) ((s.t q).begun.length+1) cap')) ∧
  ChgQ own w (w1.setCell ⟨p,tO q+348,none⟩ (.slice (some ⟨gg,0,none⟩) ((s.t q).begun.length+1) cap')) (ownAdd own gg (begTag q)):=by
 obtain ⟨C,hC,hCz⟩:=m.root
 obtain ⟨h1,h2,h3,h4,h5⟩:=grow_root (j:=tO q+348) hC m.tag (by intro c; simp [begTag] at c) m.old (m.begR q hq).2 hWb hWs hWo hWt hWp hgrow hown1 hat hH hlt
 refine ⟨m.setBeg hq _ _ (fun k t h hne=>⟨h1.ext k t h,fun ht=>h2 k t h hne ht⟩) ⟨_,h3,by simp [hCz]⟩ ?_ ?_ h4 h5,⟨h1.os,h1.tape,h1.output,h1.size,h1.block,h1.fresh,fun k x hk hx=>⟨h2 k _ hx (by intro c; simp [begTag] at c) (by intro c; simp at c),.inr (by rw [h1.ext k _ hx,hx])⟩⟩⟩
 ·rw [cell_of_row _ _ _ _ _ _ h3]
  have:tO q+348 < C.size:=by rw [hCz]; unfold tO; omega
  simp [this]
 ·intro o ho
  rw [cell_of_row _ _ _ _ _ _ h3,cell_of_row _ _ _ _ _ _ hC]
  simp [Ne.symm ho]
theorem PMem.appQue (m:PMem w p s own G) (hq:q < 32) (hWb:∀ k,k < w.heap.size→W.heap[k]?=w.heap[k]?) (hWs:w.heap.size≤W.heap.size) (hWo:W.os=w.os) (hWt:W.tape=w.tape) (hWp:W.output=w.output) {x:Nat} (hgrow:W.grownBy w1 (G.q q).ownBlock) (hown1:w1.ownsRow 0 3 1 (.slice (some ⟨gg,0,none⟩) ((s.t q).queue.length+1) cap') ((s.t q).queue.length+1) ((s.t q).queue.flatMap natC++natC x))
  (hat:(G.q q).ownBlock=some gg∨gg=H) (hH:w.heap.size≤H) (hlt:gg < w1.heap.size) :
  PMem (w1.setCell ⟨p,tO q+349,none⟩ (.slice (some ⟨gg,0,none⟩) ((s.t q).queue.length+1) cap')) p (s.setQ q ((s.t q).queue++[x])) (ownAdd own gg (queTag q)) (G.setQ q (.slice (some ⟨gg,0,none⟩) ((s.t q).queue.length+1) cap')) ∧
  ChgD own w (w1.setCell ⟨p,tO q+349,none⟩ (.slice (some ⟨gg,0,none⟩) ((s.t q).queue.length+1) cap')) (ownAdd own gg (queTag q)):=by
 obtain ⟨C,hC,hCz⟩:=m.root
 obtain ⟨h1,h2,h3,h4,h5⟩:=grow_root (j:=tO q+349) hC m.tag (by intro c; simp [queTag] at c) m.old (m.queR q hq).2 hWb hWs hWo hWt hWp hgrow hown1 hat hH hlt
 refine ⟨m.setQue hq _ _ (fun k t h hne=>⟨h1.ext k t h,fun ht=>h2 k t h hne ht⟩) ⟨_,h3,by simp [hCz]⟩ ?_ ?_ h4 h5,h1.toD⟩
 ·rw [cell_of_row _ _ _ _ _ _ h3]
  have:tO q+349 < C.size:=by rw [hCz]; unfold tO; omega
  simp [this]
 ·intro o ho
  rw [cell_of_row _ _ _ _ _ _ h3,cell_of_row _ _ _ _ _ _ hC]
  simp [Ne.symm ho]
theorem PMem.appLock (m:PMem w p s own G) (hq:q < 32) (hWb:∀ k,k < w.heap.size→W.heap[k]?=w.heap[k]?) (hWs:w.heap.size≤W.heap.size) (hWo:W.os=w.os) (hWt:W.tape=w.tape) (hWp:W.output=w.output) {n:Nat} {x:Lk} (hn:n < 4) (hgrow:W.grownBy w1 (G.s q n).1.ownBlock) (hown1:w1.ownsRow 0 148 5 (.slice (some ⟨gg,0,none⟩) (((s.t q).ses n).locks.length+1) cap') (((s.t q).ses n).locks.length+1) (((s.t q).ses n).locks.flatMap lkC++lkC x))
  (hat:(G.s q n).1.ownBlock=some gg∨gg=H) (hH:w.heap.size≤H) (hlt:gg < w1.heap.size) :
  PMem (w1.setCell ⟨p,tO q+32+n*79,none⟩ (.slice (some ⟨gg,0,none⟩) (((s.t q).ses n).locks.length+1) cap')) p (s.addLock q n x) (ownAdd own gg (lockTag q n)) (G.setS q n (.slice (some ⟨gg,0,none⟩) (((s.t q).ses n).locks.length+1) cap',(G.s q n).2)) ∧
  ChgQ own w (w1.setCell ⟨p,tO q+32+n*79,none⟩ (.slice (some ⟨gg,0,none⟩) (((s.t q).ses n).locks.length+1) cap')) (ownAdd own gg (lockTag q n)):=by
 obtain ⟨C,hC,hCz⟩:=m.root
 obtain ⟨h1,h2,h3,h4,h5⟩:=grow_root (j:=tO q+32+n*79) hC m.tag (by intro c; simp [lockTag] at c) m.old (m.lockR q hq n hn).2 hWb hWs hWo hWt hWp hgrow hown1 hat hH hlt
 have hlo:tO q+32+n*79 < C.size:=by rw [hCz]; unfold tO; omega
 refine ⟨m.setSes hq hn _ _ (fun k t h hne _=>⟨h1.ext k t h,fun ht=>h2 k t h hne ht⟩) ⟨_,h3,by simp [hCz]⟩ ?_ ?_ h4 ?_ h5,⟨h1.os,h1.tape,h1.output,h1.size,h1.block,h1.fresh,fun k x hk hx=>⟨h2 k _ hx (by intro c; simp [lockTag] at c) (by intro c; simp at c),.inr (by rw [h1.ext k _ hx,hx])⟩⟩⟩
 ·rw [sesC_locks]
  intro j u hj
  rw [cell_of_row _ _ _ _ _ _ h3]
  have hold:=m.sesAt hq hn
  by_cases e:j=0
  ·subst e
   rw [List.getElem?_set_self (by rw [len_sesC]; decide)] at hj
   rw [sO_eq]
   simp only [Nat.add_zero]
   rw [Array.getElem?_setIfInBounds_self_of_lt hlo]; exact hj
  ·rw [List.getElem?_set_ne (fun h=>e h.symm)] at hj
   have:=hold j u hj
   rw [cell_of_row _ _ _ _ _ _ hC] at this
   rw [sO_eq,Array.getElem?_setIfInBounds_ne (by omega)]; exact this
 ·intro o ho
  rw [cell_of_row _ _ _ _ _ _ h3,cell_of_row _ _ _ _ _ _ hC,Array.getElem?_setIfInBounds_ne (by rw [sO_eq] at ho; omega)]
 ·refine (m.outR q hq n hn).frame (fun k hk=>h2 k _ hk (by intro c; simp [lockTag,outTag] at c) (by intro c; simp [outTag] at c)) (fun k hk=>h1.ext k _ hk)
end
end Go.Proofs.Ytpbcplfpjcacfaa
