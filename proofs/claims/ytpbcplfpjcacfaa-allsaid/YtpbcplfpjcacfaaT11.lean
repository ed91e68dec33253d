import Derived.Test.YtpbcplfpjcacfaaF03
import Derived.Test.YtpbcplfpjcacfaaT07
import Derived.Test.YtpbcplfpjcacfaaT10
namespace Go.Proofs.Ytpbcplfpjcacfaa
open Go.RowKit
set_option maxRecDepth 100000
set_option maxHeartbeats 8000000
def AnsPost (own:Own) (w:World) (r:Nat) (st:RS) (a:Ans) (e:Ending) (w':World):Prop :=
 ∃ v own',e=.returned (ansV a.code a.why v)∧w'.ownsRow w.heap.size 94 2 v a.items.length (itemsV a.items)∧Rep w' r st own'∧Chg own w w' own'∧∀ b,v.ownBlock=some b→own' b=none
theorem Rep.fresh {w:World} {r:Nat} {st:RS} {own:Own} (h:Rep w r st own):∀ k,w.heap.size≤k→own k=none:=fun k hk=>by
 obtain ⟨g,vp,vt,vr,ve,m⟩:=h
 cases hq:own k with
 | none=>rfl
 | some t=>have:=m.old k (by rw [hq]; simp); omega
theorem works_any (r:Nat) (st:RS) (own:Own) (x:Stp) (n:Nat) (t:Tx) (w:World) (hm:Rep w r st own) (hu:st.uniq) (hn:st.txns[n]?=some t) (ht:t.who=x.who) (hpl:st.places.length < 4294967296) (hol:t.olds.length < 4294967296) (hpu:t.puts.length < 4398046511104) (hx:x.Good) :
  Calls Try.prog 112 #[.pointer (some ⟨r,0,none⟩),stepV x] w (AnsPost own w r (st.job n t x).1 (st.job n t x).2):=by
 have hreads:∀ (lo hi:Nat) (ow:Bool),sameL x.who.1 x.who.2.1 x.at_.1 x.at_.2=ow→x.op≠5→x.op≠4→x.key=(lo:Int)→x.top=hi →
   Calls Try.prog 112 #[.pointer (some ⟨r,0,none⟩),stepV x] w (fun e w'=>∃ v,e=.returned (ansV 0 0 v)∧w'.ownsRow w.heap.size 94 2 v (st.readTo ow x.at_ lo (hi+1 - lo)).length (itemsV (st.readTo ow x.at_ lo (hi+1 - lo)))∧Below w.heap.size w w') →
   Calls Try.prog 112 #[.pointer (some ⟨r,0,none⟩),stepV x] w (AnsPost own w r (st.job n t x).1 (st.job n t x).2):=by
  intro lo hi ow how h5 h4 hk ht h
  refine h.mono ?_
  rintro e w' ⟨v,rfl,hrow,hb⟩
  have e1:st.job n t x=(st,⟨0,0,st.reads x⟩):=by unfold RS.job; rw [if_neg h5,if_neg h4]
  have e2:st.reads x=st.readTo ow x.at_ lo (hi+1 - lo):=by unfold RS.reads; rw [how,ht,hk]; rfl
  rw [e1,e2]
  exact ⟨v,own,rfl,hrow,hm.below hb,Chg.of_below hb,fun b hv=>hm.fresh b (hrow.lt b hv).1⟩
 rcases hx.op with h | h | h | h
 ·obtain ⟨lo,hlo⟩:∃ lo:Nat,x.key=(lo:Int):=⟨x.key.toNat,by have:=hx.key; omega⟩
  refine hreads lo lo _ rfl (by omega) (by omega) hlo (by unfold Stp.top; rw [if_neg (by omega),hlo]; rfl) ?_
  obtain ⟨xw,xop,xa,xk,xt,xv⟩:=x
  simp only at h hlo ⊢
  subst h hlo
  exact works_get r st own xw xa lo xt xv _ w hm (by have:=hx.key.2; simp only at this; omega) rfl
 ·obtain ⟨lo,hlo⟩:∃ lo:Nat,x.key=(lo:Int):=⟨x.key.toNat,by have:=hx.key; omega⟩
  have hto:=hx.to_ h
  obtain ⟨hi,hhi⟩:∃ hi:Nat,x.to_=(hi:Int):=⟨x.to_.toNat,by omega⟩
  refine hreads lo hi _ rfl (by omega) (by omega) hlo (by unfold Stp.top; rw [if_pos h,hhi]; rfl) ?_
  obtain ⟨xw,xop,xa,xk,xt,xv⟩:=x
  simp only at h hlo hhi hto ⊢
  subst h hlo hhi
  exact works_scan r st own xw xa lo hi xv _ w hm (by omega) (by omega) rfl
 ·refine (works_put r st own x n t w hm hu hn ht hpl hol hpu h).mono ?_
  have e1:st.job n t x=(if st.full x then (st,⟨4,0,[]⟩) else (st.putT n t x.key x.value,⟨0,0,[]⟩)):=by unfold RS.job; rw [if_neg (by omega),if_pos h]
  rintro e w' (⟨hf,rfl,hr,hb⟩ | ⟨hf,rfl,own',hr,hc⟩)
  ·rw [e1,if_pos (show st.full x=true from hf)]
   exact ⟨_,own,rfl,World.ownsRow_nil _ _ _ _,hr,Chg.of_below hb,fun b hv=>by simp [Value.ownBlock] at hv⟩
  ·rw [e1,if_neg (show ¬ st.full x=true by unfold RS.full; rw [hf]; simp)]
   exact ⟨_,own',rfl,World.ownsRow_nil _ _ _ _,hr,hc,fun b hv=>by simp [Value.ownBlock] at hv⟩
 ·refine (works_del r st own x n t w hm hu hn ht hpl hol h).mono ?_
  rintro e w' ⟨rfl,own',hr,hc⟩
  have e1:st.job n t x=(st.writeT n t x.key (-1),⟨0,0,[]⟩):=by unfold RS.job; rw [if_pos h]
  rw [e1]
  exact ⟨_,own',rfl,World.ownsRow_nil _ _ _ _,hr,hc,fun b hv=>by simp [Value.ownBlock] at hv⟩
theorem Mem.ended_new {wE w2:World} {r:Nat} {st:RS} {own:Own} {g:Gh} {vp vt vr ve v:Value} {l:List (Wh × Int)} (P:Mem wE r st own g vp vt vr ve)
  (hb:Below wE.heap.size wE w2) (hown:w2.ownsRow wE.heap.size 173 4 v l.length (l.flatMap endC)) :
  Mem (w2.setCell ⟨r,6,none⟩ v) r { st with ended:=l } (ownNew own v (5,0,0,0)) g vp vt vr v∧Chg own wE (w2.setCell ⟨r,6,none⟩ v) (ownNew own v (5,0,0,0)) ∧
   (∀ b t,own b=some t→t≠(1,0,0,0)→(w2.setCell ⟨r,6,none⟩ v).heap[b]?=wE.heap[b]?):=by
 obtain ⟨hchg,hkeep,hroot',hrow',hold'⟩:=new_root (j:=6) (t0:=(5,0,0,0)) P.root P.rootTag P.old hb hown
 refine ⟨?_,hchg,hkeep⟩
 exact {
  root:=by simpa using hroot'
  rootTag:=hchg.ext _ _ P.rootTag
  places:=P.places.frame (fun b hb=>hkeep b _ hb (by decide)) (fun b hb=>hchg.ext b _ hb)
  txns:=P.txns.frame (fun b hb=>hkeep b _ hb (by decide)) (fun b hb=>hchg.ext b _ hb)
  recs:=P.recs.frame (fun b hb=>hkeep b _ hb (by decide)) (fun b hb=>hchg.ext b _ hb)
  ended:=hrow'
  olds:=fun t ht=>(P.olds t ht).frame (fun b hb=>hkeep b _ hb (by intro h; cases h)) (fun b hb=>hchg.ext b _ hb)
  puts:=fun t ht=>(P.puts t ht).frame (fun b hb=>hkeep b _ hb (by intro h; cases h)) (fun b hb=>hchg.ext b _ hb)
  told:=fun t ht hr=>(P.told t ht hr).frame (fun b hb=>hkeep b _ hb (by intro h; cases h)) (fun b hb=>hchg.ext b _ hb)
  toldV:=P.toldV
  old:=hold' }
theorem told_hit {l:List (Wh × Int)} {x:Wh} {k:Nat} {e:Wh × Int} (hk:l[k]?=some e) (hn:∀ y∈l.take k,isW x y=false) (he:isW x e=true) :
  l.find? (isW x)=some e∧l.eraseP (isW x)=l.take k++l.drop (k+1):=by
 have hl:l=l.take k++e :: l.drop (k+1):=by rw [← drop_at hk,List.take_append_drop]
 have hno:∀ y∈l.take k,¬ isW x y=true:=fun y hy=>by rw [hn y hy]; simp
 constructor
 ·rw [hl,List.find?_append,List.find?_eq_none.2 hno]; simp [he]
 ·conv=>lhs; rw [hl]
  rw [List.eraseP_append_right _ hno,List.eraseP_cons_of_pos he]
theorem flat_drop {l:List (Wh × Int)}:∀ (k:Nat),(l.flatMap endC).drop (k*4)=(l.drop k).flatMap endC:=by
 induction l with
 | nil=>simp
 | cons a l ih =>
  intro k
  cases k with
  | zero=>simp
  | succ k=>rw [List.flatMap_cons,List.drop_succ_cons,← ih k,List.drop_append,List.drop_eq_nil_of_le (by simp [len_endC]; omega),List.nil_append,len_endC,show (k+1)*4 - 4=k*4 by omega]
theorem Row.capLe {α:Type} {w:World} {own:Own} {tag:Tag} {e size n cap:Nat} {ao:Option Addr} {l:List α} {f:α→List Value} (h:Row w own tag e size (.slice ao n cap) l f):l.length≤cap∧cap≤maxLen:=by
 obtain ⟨⟨_,ho⟩,_⟩:=h
 rcases ho with ⟨h,h0⟩ | ⟨b,c,d,e1,e2,e3,e4,e5,e6,e7⟩
 ·simp only [Value.slice.injEq] at h; obtain ⟨_,_,rfl⟩:=h; exact ⟨by omega,Nat.zero_le _⟩
 ·simp only [Value.slice.injEq] at e1; obtain ⟨_,_,rfl⟩:=e1; exact ⟨e4,e5⟩
theorem one_endC (l:List (Wh × Int)):∀ u∈l.flatMap endC,u.oneCell'=true:=by
 intro u hu
 obtain ⟨e,_,he⟩:=List.mem_flatMap.1 hu
 simp only [endC,List.mem_cons,List.not_mem_nil,or_false] at he
 rcases he with rfl | rfl | rfl | rfl<;>rfl
theorem told_any (r:Nat) (st:RS) (own:Own) (x:Wh) (w:World) (hm:Rep w r st own) (hen:st.ended.length < 4294967296) :
  Calls Try.prog 86 #[.pointer (some ⟨r,0,none⟩),.agg #[.int .i64 x.1,.int .i64 x.2.1,.int .i64 x.2.2]] w fun e w'=>e=.returned (.int .i64 (st.toldW x))∧Goes own w w' r (st.toldT x):=by
 obtain ⟨g,vp,vt,vr,ve,m⟩:=hm
 obtain ⟨ao,cap,rfl,hmax,hel⟩:=m.ended.form len_endC
 have MM:Hid (Mem w r st own g vp vt vr (.slice ao st.ended.length cap)):=m
 have hr6:w.cell? ⟨r,6,none⟩=some (.slice ao st.ended.length cap):=by rw [root_cell m.root]; rfl
 have hrlt:r < w.heap.size:=m.old r (by rw [m.rootTag]; simp)
 have HEL:Hid (∀ (k:Nat) (y:Wh × Int),st.ended[k]?=some y→∃ b,ao=some ⟨b,0,none⟩∧own b=some (5,0,0,0)∧b < w.heap.size∧w.rangeAt b (k*4) (endC y)∧∀ j,w.frozen? ⟨b,j,none⟩=false):=hel
 obtain ⟨i0,hi0,hz0,hs0,hb0⟩:=info_all info164
 unfold maxLen at hmax
 obtain ⟨hcap,hcapM⟩:=m.ended.capLe
 unfold maxLen at hcapM
 clear m hel
 go_enter Try.func86,Try.ntmps86
 go_wp2_with fail
 have hA:Below w.heap.size w (w.alloc (.cells #[.int .i64 x.1,.int .i64 x.2.1,.int .i64 x.2.2] 28)):=(Below.refl _ _).alloc (Nat.le_refl _) _
 have hXA:(w.alloc (.cells #[.int .i64 x.1,.int .i64 x.2.1,.int .i64 x.2.2] 28)).heap[w.heap.size]?=some (.cells #[.int .i64 x.1,.int .i64 x.2.1,.int .i64 x.2.2] 28 (0,0)):=heap_alloc_new w _
 have hzA:(w.alloc (.cells #[.int .i64 x.1,.int .i64 x.2.1,.int .i64 x.2.2] 28)).heap.size=w.heap.size+1:=by simp
 generalize w.alloc (.cells #[.int .i64 x.1,.int .i64 x.2.1,.int .i64 x.2.2] 28)=wA at *
 have HXA:Hid (wA.heap[w.heap.size]?=some (.cells #[.int .i64 x.1,.int .i64 x.2.1,.int .i64 x.2.2] 28 (0,0))):=hXA
 have HzA:Hid (wA.heap.size=w.heap.size+1):=hzA
 clear hXA hzA
 go_loopw [5] (fun i wr=>∃ k:Nat,k≤st.ended.length∧i=.int .i64 k∧Hid (∀ y∈st.ended.take k,isW x y=false)∧Below wA.heap.size wA wr) (fun i _=>st.ended.length - (intOf i).toNat)
 case atStart=>exact ⟨0,Nat.zero_le _,rfl,(fun y hy=>by simp at hy),Below.refl _ _⟩
 case round =>
  obtain ⟨k,hk,rfl,HN,hnx⟩:=hrel
  have hend:Below w.heap.size w wr:=hA.trans (hnx.mono hA.size)
  have c6:=cell_later hend hr6
  have hXr:wr.heap[w.heap.size]?=some (.cells #[.int .i64 x.1,.int .i64 x.2.1,.int .i64 x.2.2] 28 (0,0)):=(hnx.block _ (by have:=HzA.out; omega)).trans HXA.out
  have x0:wr.cell? ⟨w.heap.size,0,none⟩=some (.int .i64 x.1):=by rw [cell_of_row wr _ 0 _ _ _ hXr]; rfl
  have x1:wr.cell? ⟨w.heap.size,1,none⟩=some (.int .i64 x.2.1):=by rw [cell_of_row wr _ 1 _ _ _ hXr]; rfl
  have x2:wr.cell? ⟨w.heap.size,2,none⟩=some (.int .i64 x.2.2):=by rw [cell_of_row wr _ 2 _ _ _ hXr]; rfl
  by_cases hlt:k < st.ended.length
  ·have gk:=List.getElem?_eq_getElem hlt
   generalize st.ended[k]=y at gk
   obtain ⟨bt,rfl,_,hbt,hrg,_⟩:=HEL.out k y gk
   have hrg':wr.rangeAt bt (k*4) (endC y):=rangeAt_below hrg hend hbt
   have y0:wr.cell? ⟨bt,k*4,none⟩=some (.int .i64 y.1.1):=hrg' 0 _ rfl
   have y1:wr.cell? ⟨bt,k*4+1,none⟩=some (.int .i64 y.1.2.1):=hrg' 1 _ rfl
   have y2:wr.cell? ⟨bt,k*4+2,none⟩=some (.int .i64 y.1.2.2):=hrg' 2 _ rfl
   have y3:wr.cell? ⟨bt,k*4+3,none⟩=some (.int .i64 y.2):=hrg' 3 _ rfl
   have zk:(k:Int) < (st.ended.length:Int):=by omega
   have Gk:Hid (st.ended[k]?=some y):=gk
   clear hrg hrg' gk hXr
   have kne:=kin_some wr
   have k6:=kin_cell c6
   have kx0:=kin_cell x0
   have kx1:=kin_cell x1
   have kx2:=kin_cell x2
   have ky0:=kin_cell y0
   have ky1:=kin_cell y1
   have ky2:=kin_cell y2
   cases hs:sameW y.1.1 y.1.2.1 y.1.2.2 x.1 x.2.1 x.2.2
   ·go_wp2_with fail
    refine wp_region_kin (by kernel_rfl) (by kernel_rfl) ?_
    repeat (first | go_big_quiet_step ((go_at_call 46; exact Calls.kin (sameWho_is hs _))) | quiet_step ((go_at_call 46; exact Calls.kin (sameWho_is hs _))))
    refine wpQuiet_nil ?_
    intro _ hw'
    obtain ⟨xq,hw''⟩:=hw'
    subst hw''
    go_wp2
    go_roundw
    case rel=>exact ⟨k+1,by omega,by go_num,(fun z hz=>by
     rw [List.take_add_one,Gk.out] at hz
     rcases List.mem_append.1 hz with h | h
     ·exact HN.out z h
     ·simp at h; subst h; exact hs),hnx.trans (xq.h.mono hnx.size)⟩
    case measure=>simp [intOf]; omega
   ·obtain ⟨hfi,her⟩:=told_hit Gk.out HN.out hs
    have HFI:Hid (st.toldW x=y.2):=by unfold Hid RS.toldW; rw [hfi]
    have HER:Hid (st.ended.eraseP (isW x)=st.ended.take k++st.ended.drop (k+1)):=her
    clear hfi her
    go_wp2_with fail
    refine wp_region_kin (by kernel_rfl) (by kernel_rfl) ?_
    repeat (first | go_big_quiet_step ((go_at_call 46; exact Calls.kin (sameWho_is hs _))) | quiet_step ((go_at_call 46; exact Calls.kin (sameWho_is hs _))))
    refine wpQuiet_nil ?_
    intro _ hw'
    obtain ⟨xq,hw''⟩:=hw'
    subst hw''
    have d6:=k6 xq
    have d3:=cell_later xq.h y3
    have zc:¬ (cap:Int) < (k:Int):=by omega
    have zc':(k:Int)≤(cap:Int):=by omega
    have hzq:wr.heap.size≤xq.w.heap.size:=xq.h.size
    have hBq:Below w.heap.size w xq.w:=hend.trans (xq.h.mono hend.size)
    have hall:∀ (j:Nat) (u:Value),(st.ended.flatMap endC)[j]?=some u→xq.w.cell? ⟨bt,j,none⟩=some u:=by
     intro j u hj
     have h1:=MM.out.ended.1.cells (g:=bt) rfl j u hj
     rw [Addr.add_mid] at h1
     exact cell_later hBq (by simpa using h1)
    have fl:st.ended.flatMap endC=(st.ended.take k).flatMap endC++(st.ended.drop k).flatMap endC:=by rw [← List.flatMap_append,List.take_append_drop]
    obtain ⟨nk,hnk⟩:∃ l,l=(st.ended.take k).flatMap endC:=⟨_,rfl⟩
    obtain ⟨nd,hnd⟩:∃ l,l=(st.ended.drop (k+1)).flatMap endC:=⟨_,rfl⟩
    have Hnk:Hid (nk=(st.ended.take k).flatMap endC):=hnk
    have Hnd:Hid (nd=(st.ended.drop (k+1)).flatMap endC):=hnd
    have Lnk:Hid (nk.length=k*4):=by unfold Hid; rw [hnk,flatMap_len endC 4 _ len_endC,List.length_take]; omega
    have Lnd:Hid (nd.length=(st.ended.length - (k+1))*4):=by unfold Hid; rw [hnd,flatMap_len endC 4 _ len_endC,List.length_drop]
    have Onk:Hid (∀ u∈nk,u.oneCell'=true):=by unfold Hid; rw [hnk]; exact one_endC _
    have Ond:Hid (∀ u∈nd,u.oneCell'=true):=by unfold Hid; rw [hnd]; exact one_endC _
    have Cnk:Hid (∀ j u,nk[j]?=some u→xq.w.cell? ⟨bt,j,none⟩=some u):=fun j u hj=>by
     refine hall j u ?_
     have hjl:j < nk.length:=(List.getElem?_eq_some_iff.1 hj).1
     rw [fl,← hnk,List.getElem?_append_left hjl,hj]
    have Cnd:Hid (∀ j u,nd[j]?=some u→xq.w.cell? ⟨bt,(k+1)*4+j,none⟩=some u):=fun j u hj=>by
     refine hall _ u ?_
     rw [hnd,← flat_drop,List.getElem?_drop] at hj
     exact hj
    clear hall hnk hnd fl
    have hbq:bt < xq.w.heap.size:=by have:=hBq.size; omega
    go_wp2_with (at_builtin; refine wpList_append_own _ rfl _ _ 104 rfl xq.w.heap.size 173 i0 _ 4 32 Try.underlying104 hi0 hz0 hs0 hb0 rfl (by decide) _ 0 [] rfl (World.ownsRow_nil _ _ _ _) ⟨bt,0,none⟩ k cap nk rfl ?c1 ?c2 ?c3 ?c4 ?c5 ?c6 ?_)
    case c1=>exact Lnk.out
    case c2=>intro j u hj; first | (rw [Addr.add_mid,Nat.zero_add]; exact Cnk.out j u hj) | exact Cnk.out j u hj
    case c3=>exact Onk.out
    case c4=>unfold maxLen; omega
    case c5=>omega
    intro v1 w1 hown1 hgrow1 _
    have hown1':w1.ownsRow xq.w.heap.size 173 4 v1 k nk:=by simpa using hown1
    clear hown1
    have e6:=hgrow1.cell d6 (by simp [Value.ownBlock])
    have hb1:Below xq.w.heap.size xq.w w1:=(Below.refl _ _).grown hgrow1 (Nat.le_refl _) (fun _ h=>by simp [Value.ownBlock] at h)
    have zc2:¬ (st.ended.length:Int) < (k:Int)+1:=by omega
    have zc3:(k:Int)+1≤(st.ended.length:Int):=by omega
    have zc4:(st.ended.length:Int)≤(cap:Int):=by omega
    clear hgrow1
    by_cases hck:cap=k+1
    ·subst hck
     have Cnd1:Hid (∀ j u,nd[j]?=some u→w1.cell? ((⟨bt,0,none⟩:Addr).add j)=some u):=by
      intro j u hj
      have hjl:j < nd.length:=(List.getElem?_eq_some_iff.1 hj).1
      rw [Lnd.out] at hjl
      rw [Addr.add_mid]
      first | exact cell_later hb1 (Cnd.out j u hj) | omega
     go_wp2_with (at_builtin; refine wpList_append_own _ rfl _ _ 104 rfl xq.w.heap.size 173 i0 _ 4 32 Try.underlying104 hi0 hz0 hs0 hb0 rfl (by decide) _ k nk rfl hown1' ⟨bt,0,none⟩ 0 _ nd rfl (Lnd.out.trans (by omega)) Cnd1.out Ond.out (by unfold maxLen; omega) (by omega) hb1.size ?_)
     intro v2 w2 hown2 hgrow2 _
     have hb2:Below xq.w.heap.size xq.w w2:=hb1.grown hgrow2 hb1.size (fun q h=>(hown1'.lt q h).1)
     have hB2:Below w.heap.size w w2:=hBq.trans (hb2.mono hBq.size)
     obtain ⟨ua,un,uc,rfl⟩:∃ a n c,v2=.slice a n c:=by
      rcases hown2.2 with ⟨h,_⟩ | ⟨b,c,d,h,_⟩
      ·exact ⟨_,_,_,h⟩
      ·exact ⟨_,_,_,h⟩
     have hown3:w2.ownsRow w.heap.size 173 4 (.slice ua un uc) (st.ended.eraseP (isW x)).length ((st.ended.eraseP (isW x)).flatMap endC):=by
      rw [HER.out,List.flatMap_append,← Hnk.out,← Hnd.out,List.length_append,List.length_take,List.length_drop,Nat.min_eq_left (Nat.le_of_lt hlt)]
      rw [show st.ended.length - (k+1)=0 by omega]
      exact ownsRow_lower hown2 hBq.size
     obtain ⟨M3,hC3,_⟩:=MM.out.ended_new hB2 hown3
     have hfin:Goes own w (w2.setCell ⟨r,6,none⟩ (.slice ua un uc)) r (st.toldT x):=⟨_,⟨g,vp,vt,vr,_,M3⟩,hC3⟩
     have g6:=cell_later hb2 d6
     have f6:w2.frozen? ⟨r,6,none⟩=false:=by rw [hB2.frozen (p:=⟨r,6,none⟩) hrlt]; exact frozen_of_row w r 6 _ _ MM.out.root
     clear hown3 hown2 hgrow2 M3 hC3 hown1'
     go_wp2
     go_ret
     refine ⟨?_,hfin⟩
     rw [HFI.out]; rfl
    ·skip
     have Cnd1:Hid (∀ j u,nd[j]?=some u→w1.cell? ((⟨bt,(k+1)*4,none⟩:Addr).add j)=some u):=by
      intro j u hj
      have hjl:j < nd.length:=(List.getElem?_eq_some_iff.1 hj).1
      rw [Lnd.out] at hjl
      rw [Addr.add_mid]
      first | exact cell_later hb1 (Cnd.out j u hj) | omega
     go_wp2_with (at_builtin; refine wpList_append_own _ rfl _ _ 104 rfl xq.w.heap.size 173 i0 _ 4 32 Try.underlying104 hi0 hz0 hs0 hb0 rfl (by decide) _ k nk rfl hown1' ⟨bt,(k+1)*4,none⟩ (st.ended.length - (k+1)) _ nd rfl Lnd.out Cnd1.out Ond.out (by unfold maxLen; omega) (by omega) hb1.size ?_)
     intro v2 w2 hown2 hgrow2 _
     have hb2:Below xq.w.heap.size xq.w w2:=hb1.grown hgrow2 hb1.size (fun q h=>(hown1'.lt q h).1)
     have hB2:Below w.heap.size w w2:=hBq.trans (hb2.mono hBq.size)
     obtain ⟨ua,un,uc,rfl⟩:∃ a n c,v2=.slice a n c:=by
      rcases hown2.2 with ⟨h,_⟩ | ⟨b,c,d,h,_⟩
      ·exact ⟨_,_,_,h⟩
      ·exact ⟨_,_,_,h⟩
     have hown3:w2.ownsRow w.heap.size 173 4 (.slice ua un uc) (st.ended.eraseP (isW x)).length ((st.ended.eraseP (isW x)).flatMap endC):=by
      rw [HER.out,List.flatMap_append,← Hnk.out,← Hnd.out,List.length_append,List.length_take,List.length_drop,Nat.min_eq_left (Nat.le_of_lt hlt)]
      exact ownsRow_lower hown2 hBq.size
     obtain ⟨M3,hC3,_⟩:=MM.out.ended_new hB2 hown3
     have hfin:Goes own w (w2.setCell ⟨r,6,none⟩ (.slice ua un uc)) r (st.toldT x):=⟨_,⟨g,vp,vt,vr,_,M3⟩,hC3⟩
     have g6:=cell_later hb2 d6
     have f6:w2.frozen? ⟨r,6,none⟩=false:=by rw [hB2.frozen (p:=⟨r,6,none⟩) hrlt]; exact frozen_of_row w r 6 _ _ MM.out.root
     clear hown3 hown2 hgrow2 M3 hC3 hown1'
     go_wp2
     go_ret
     refine ⟨?_,hfin⟩
     rw [HFI.out]; rfl
  ·have ek:k=st.ended.length:=by omega
   subst ek
   rw [List.take_length] at HN
   have HFI:Hid (st.toldW x=0):=by
    unfold Hid RS.toldW; rw [List.find?_eq_none.2 (fun y hy=>by rw [HN.out y hy]; simp)]
   have HER:Hid (st.toldT x=st):=by
    unfold Hid RS.toldT; rw [List.eraseP_of_forall_not (fun y hy=>by rw [HN.out y hy]; simp)]
   go_wp2
   go_ret
   refine ⟨?_,?_⟩
   ·rw [HFI.out]; rfl
   ·rw [HER.out]; exact ⟨own,⟨g,vp,vt,vr,_,MM.out.below hend⟩,Chg.of_below hend⟩
theorem ahead_any (a b:Rc) (w:World) (ha:Lab.ok a.at_) (hb:Lab.ok b.at_) :
  Calls Try.prog 110 #[recV a,recV b] w fun e w'=>e=.returned (.bool (aheadB a b))∧Below w.heap.size w w':=by
 unfold recV
 obtain ⟨ha1,ha2,ha3,ha4⟩:=ha
 obtain ⟨hb1,hb2,hb3,hb4⟩:=hb
 by_cases hx:8*a.at_.1+a.at_.2=8*b.at_.1+b.at_.2
 ·have hx':(8*a.at_.1+a.at_.2 != 8*b.at_.1+b.at_.2)=false:=by simp [hx]
  have HX:Hid (8*a.at_.1+a.at_.2=8*b.at_.1+b.at_.2):=hx
  clear hx
  cases h1:sameL a.who.1 a.who.2.1 a.at_.1 a.at_.2
  all_goals cases h2:sameL b.who.1 b.who.2.1 b.at_.1 b.at_.2
  all_goals
   go_enter Try.func110,Try.ntmps110
   go_wp2_with fail
   refine (sameLabel_is h1 _).mono ?_
   rintro e w1 ⟨rfl,hb⟩
   obtain ⟨hc,hf⟩:=bcell hb
   have hB:=below2 hb
   have hz:=hb.size
   have e1:w.heap.size < w1.heap.size:=by simp at hz; omega
   have e2:w.heap.size+1 < w1.heap.size:=by simp at hz; omega
   clear hb
   go_wp2_with fail
   refine (sameLabel_is h2 _).mono ?_
   rintro e w2 ⟨rfl,hb2⟩
   have hB2:=hB.trans (hb2.mono hB.size)
   obtain ⟨hc2,_⟩:=bcell hb2
   clear hb2 hf
   go_wp2
   go_ret
   exact ⟨ret_bool (by simp [aheadB,ownL,h1,h2,HX.out]),hB2⟩
 ·have hx':(8*a.at_.1+a.at_.2 != 8*b.at_.1+b.at_.2)=true:=by simp [hx]
  have HX:Hid (¬ 8*a.at_.1+a.at_.2=8*b.at_.1+b.at_.2):=hx
  clear hx
  go_enter Try.func110,Try.ntmps110
  go_wp2
  go_ret
  exact ⟨ret_bool (by simp [aheadB,HX.out]),below2r⟩
theorem ahead_is {a b:Rc} {v:Bool} (h:aheadB a b=v) (ha:Lab.ok a.at_) (hb:Lab.ok b.at_) (w:World):Calls Try.prog 110 #[recV a,recV b] w fun e w'=>e=.returned (.bool v)∧Below w.heap.size w w':=by
 subst h; exact ahead_any a b w ha hb
def whoCode (x:Wh):Nat:=((8*x.1+x.2.1)*4+x.2.2).toNat
def keyCode (p:Lab × Int):Nat:=((8*p.1.1+p.1.2)*16+p.2).toNat
theorem labCode_lt {a:Lab} (h:a.ok):labCode a < 32:=by unfold labCode; obtain ⟨h1,h2,h3,h4⟩:=h; omega
theorem whoCode_lt {x:Wh} (h:x.ok):whoCode x < 128:=by
 unfold whoCode; obtain ⟨⟨h1,h2,h3,h4⟩,h5,h6⟩:=h
 simp only [Wh.lab] at h1 h2 h3 h4; omega
theorem keyCode_lt {p:Lab × Int} (h:p.1.ok) (h0:0≤p.2) (h1:p.2≤15):keyCode p < 512:=by unfold keyCode; obtain ⟨h1,h2,h3,h4⟩:=h; omega
theorem whoCode_inj {x y:Wh} (hx:x.ok) (hy:y.ok) (h:whoCode x=whoCode y):x=y:=by
 obtain ⟨⟨h1,h2,h3,h4⟩,h5,h6⟩:=hx
 obtain ⟨⟨k1,k2,k3,k4⟩,k5,k6⟩:=hy
 simp only [Wh.lab] at h1 h2 h3 h4 k1 k2 k3 k4
 unfold whoCode at h
 have e1:x.1=y.1:=by omega
 have e2:x.2.1=y.2.1:=by omega
 have e3:x.2.2=y.2.2:=by omega
 exact Prod.ext e1 (Prod.ext e2 e3)
theorem keyCode_inj {p q:Lab × Int} (hp:p.1.ok) (h0:0≤p.2) (h1:p.2≤15) (hq:q.1.ok) (k0:0≤q.2) (k1:q.2≤15) (h:keyCode p=keyCode q):p=q:=by
 obtain ⟨a1,a2,a3,a4⟩:=hp
 obtain ⟨b1,b2,b3,b4⟩:=hq
 unfold keyCode at h
 have e1:p.1.1=q.1.1:=by omega
 have e2:p.1.2=q.1.2:=by omega
 have e3:p.2=q.2:=by omega
 exact Prod.ext (Prod.ext e1 e2) e3
theorem nodup_code {α β:Type} {g:α→β} {c:β→Nat} {l:List α} (h:(l.map g).Nodup) (hi:∀ x∈l,∀ y∈l,c (g x)=c (g y)→g x=g y):(l.map (fun x=>c (g x))).Nodup:=by
 unfold List.Nodup at h ⊢
 rw [List.pairwise_map] at h ⊢
 exact h.imp_of_mem (fun {a b} ha hb hne e=>hne (hi a ha b hb e))
namespace RS.Fit
variable {N:Nat} {st:RS}
theorem txnsL (F:st.Fit N):st.txns.length≤128:=by
 have h:=nodup_len (st.txns.map (fun t=>whoCode t.who)) 128 (nodup_code (g:=Tx.who) (c:=whoCode) F.txnsN (fun x hx y hy e=>whoCode_inj (F.who x hx) (F.who y hy) e)) (fun x hx=>by
  obtain ⟨t,ht,rfl⟩:=List.mem_map.1 hx; exact whoCode_lt (F.who t ht))
 simpa using h
theorem plcL (F:st.Fit N):st.places.length≤512:=by
 have h:=nodup_len (st.places.map (fun p=>keyCode (p.at_,p.key))) 512 (nodup_code (g:=fun p:Plc=>(p.at_,p.key)) (c:=keyCode) F.plcN (fun x hx y hy e=>by
  obtain ⟨a,b,c⟩:=F.plcs x hx; obtain ⟨a',b',c'⟩:=F.plcs y hy; exact keyCode_inj a b c a' b' c' e)) (fun x hx=>by
  obtain ⟨t,ht,rfl⟩:=List.mem_map.1 hx
  obtain ⟨a,b,c⟩:=F.plcs t ht; exact keyCode_lt a b c)
 simpa using h
theorem oldsL (F:st.Fit N) {t:Tx} (ht:t∈st.txns):t.olds.length≤16:=by
 have h:=nodup_len (t.olds.map (fun o=>o.1.toNat)) 16 (nodup_code (g:=fun o:Int × Int=>o.1) (c:=Int.toNat) (F.oldsN t ht) (fun x hx y hy e=>by
  have:=F.olds t ht x hx; have:=F.olds t ht y hy; omega)) (fun x hx=>by
  obtain ⟨o,ho,rfl⟩:=List.mem_map.1 hx
  have:=F.olds t ht o ho; omega)
 simpa using h
theorem endL (F:st.Fit N):st.ended.length≤128:=by
 have h:=nodup_len (st.ended.map (fun e=>whoCode e.1)) 128 (nodup_code (g:=fun e:Wh × Int=>e.1) (c:=whoCode) F.endN (fun x hx y hy e=>whoCode_inj (F.endW x hx) (F.endW y hy) e)) (fun x hx=>by
  obtain ⟨t,ht,rfl⟩:=List.mem_map.1 hx; exact whoCode_lt (F.endW t ht))
 simpa using h
theorem recL (F:st.Fit N):st.recs.length≤1024:=by
 have h:=len_classes (fun c:Rc=>labCode c.who.lab) 32 32 st.recs (fun c hc=>labCode_lt (F.recW hc).1) (fun i _=>F.recN i)
 omega
end RS.Fit
end Go.Proofs.Ytpbcplfpjcacfaa
