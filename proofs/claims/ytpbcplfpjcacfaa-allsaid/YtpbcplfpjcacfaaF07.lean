import Derived.Test.YtpbcplfpjcacfaaF06
namespace Go.Proofs.Ytpbcplfpjcacfaa
open Go.RowKit
set_option maxRecDepth 100000
set_option maxHeartbeats 8000000
def labOf (q:Nat):Lab:=(((q / 8:Nat):Int),((q % 8:Nat):Int))
def plOf (a:Lab):Nat:=placeOf a.1 a.2
def whoOf (q n:Nat):Wh:=((labOf q).1,(labOf q).2,(n:Int))
def lkOf (x:Stp):Lk:=⟨x.at_,x.key,if x.op=3 then x.to_ else x.key,decide (x.op=4∨x.op=5)⟩
def Lk.covB (l r:Lk):Bool:=sameL l.at_.1 l.at_.2 r.at_.1 r.at_.2 && (decide (l.lo≤r.lo) && (decide (r.hi≤l.hi) && (l.wr || !r.wr)))
def Lk.meetB (l m:Lk):Bool:=sameL l.at_.1 l.at_.2 m.at_.1 m.at_.2 && (decide (m.lo≤l.hi) && (decide (l.lo≤m.hi) && (l.wr || m.wr)))
def Ses.covB (s:Ses) (r:Lk):Bool:=s.locks.any (·.covB r)
def Ses.metB (s:Ses) (r:Lk):Bool:=s.locks.any (·.meetB r)
def Tr.metB (t:Tr) (r:Lk):Bool:=(List.range 4).any fun n=>(t.ses n).metB r
def hasB (l:List Nat) (n:Nat):Bool:=l.any (· == n)
def aheadIn:List Nat→Nat→Nat→Bool
 | [],_,_=>false
 | m :: l,o,n=>if m=n then false else if m=o then true else aheadIn l o n
def Tr.hindB (t:Tr) (o n:Nat):Bool :=
 !(o == n) && ((t.ses o).metB (lkOf (t.ses n).req) || (aheadIn t.queue o n && (lkOf (t.ses o).req).meetB (lkOf (t.ses n).req)))
def PS.hindB (s:PS) (q n:Nat):Bool :=
 if ((s.t q).ses n).req.at_=labOf q then (List.range 4).any (fun o=>(s.t q).hindB o n) else (s.t (plOf ((s.t q).ses n).req.at_)).metB (lkOf ((s.t q).ses n).req)
def lsOff (l:List Nat) (n:Nat):List Nat:=l.filter (fun m=>!(m == n))
def Tr.endT (t:Tr) (n:Nat):Tr:={ t with begun:=lsOff t.begun n,queue:=lsOff t.queue n,ses:=upd t.ses n ses0 }
def Tr.forceT (t:Tr) (n:Nat) (why:Int):Tr:=(t.endT n).setS n { ses0 with ended:=why }
def Tr.lockTo (t:Tr) (n:Nat):Nat:=t.queue.length+((List.range n).map (fun i=>(t.ses i).locks.length)).sum
def Tr.takenB (t:Tr) (k:Nat):Bool:=(t.items k).isSome || (List.range 4).any fun i=>(t.ses i).wr.put k
def Tr.takenTo (t:Tr) (n:Nat):Nat:=((List.range n).filter t.takenB).length
def Wrt.putT (x:Wrt) (k:Nat) (v:Int):Wrt:=⟨upd x.touched k true,upd x.left k (some v),upd x.put k true⟩
def Wrt.delT (x:Wrt) (k:Nat):Wrt:=⟨upd x.touched k true,upd x.left k none,x.put⟩
def Wrt.over (x:Wrt) (f:Nat→Option Int):Nat→Option Int:=fun k=>if x.touched k then x.left k else f k
def PS.seesT (s:PS) (q n:Nat) (a:Lab):Nat→Option Int:=if a=labOf q then ((s.t q).ses n).wr.over (s.t (plOf a)).items else (s.t (plOf a)).items
def PS.setW (s:PS) (q n:Nat) (x:Wrt):PS:=s.setS q n { (s.t q).ses n with wr:=x }
def PS.putT (s:PS) (q n:Nat) (x:Stp):PS × Ans :=
 if (s.t q).takenB x.key.toNat=false∧s.k≤((s.t q).takenTo 16:Int) then (s,⟨4,0,[]⟩)
 else (s.setW q n (((s.t q).ses n).wr.putT x.key.toNat x.value),⟨0,0,[]⟩)
def PS.grantT (s:PS) (q n:Nat) (x:Stp):PS × Ans :=
 if x.op=4 then s.putT q n x
 else if x.op=5 then (s.setW q n (((s.t q).ses n).wr.delT x.key.toNat),⟨0,0,[]⟩)
 else (s,⟨0,0,listTo (s.seesT q n x.at_) (lkOf x).lo (lkOf x).hi 16⟩)
def Tr.preTo (t:Tr) (r:Lk):Nat→Tr
 | 0=>t
 | n+1=>if ((t.preTo r n).ses n).metB r then (t.preTo r n).forceT n 1 else t.preTo r n
def PS.preTo (s:PS) (r:Lk) (b:Nat):PS:={ s with t:=fun q=>if plOf r.at_ < q∧q < b then (s.t q).preTo r 4 else s.t q }
def PS.preT (s:PS) (r:Lk):PS:=s.preTo r 32
def Tr.leaveT (t:Tr) (n:Nat):Tr:={ t with queue:=lsOff t.queue n,ses:=upd t.ses n { t.ses n with req:=stp0 } }
def PS.addLock (s:PS) (q n:Nat) (r:Lk):PS:=s.setS q n { (s.t q).ses n with locks:=((s.t q).ses n).locks++[r] }
def PS.lockT (s:PS) (q n:Nat) (x:Stp):PS:=if (lkOf x).wr then ((s.setT q ((s.t q).leaveT n)).addLock q n (lkOf x)).preT (lkOf x) else (s.setT q ((s.t q).leaveT n)).addLock q n (lkOf x)
def PS.admitT (s:PS) (q n:Nat):PS × Ans:=(s.lockT q n ((s.t q).ses n).req).grantT q n ((s.t q).ses n).req
def PS.tellT (s:PS) (q n:Nat) (a:Ans):PS:=s.setS q n { (s.t q).ses n with out:=a,came:=true }
def PS.settle1 (s:PS) (q a n:Nat):PS :=
 if plOf ((s.t q).ses n).req.at_=a∧s.hindB q n=false then (s.admitT q n).1.tellT q n (s.admitT q n).2 else s
def PS.settleL (q a:Nat):PS→List Nat→PS
 | s,[]=>s
 | s,n :: l=>PS.settleL q a (s.settle1 q a n) l
def PS.settleQ (s:PS) (q a:Nat):PS:=PS.settleL q a s (s.t q).queue
def PS.settleF (s:PS) (a:Nat):Nat→PS
 | 0=>s
 | k+1=>(s.settleF a k).settleQ (a+k) a
def PS.settleTo (s:PS):Nat→PS
 | 0=>s
 | a+1=>(s.settleTo a).settleF a (32 - a)
def PS.settleT (s:PS):PS:=s.settleTo 32
def PS.finishT (s:PS) (q n:Nat):PS:=(s.setT q ((s.t q).endT n)).settleT
abbrev Wtg:=Nat→Nat→Bool
def Wtg.set (w:Wtg) (a b:Nat) (v:Bool):Wtg:=fun x y=>if x=a∧y=b then v else w x y
def Tr.row (t:Tr) (w:Wtg) (n:Nat):Nat→Wtg
 | 0=>w
 | o+1=>(t.row w n o).set n o (t.hindB o n)
def Tr.hands (t:Tr):Wtg→List Nat→Wtg
 | w,[]=>w
 | w,n :: l=>t.hands (t.row w n 4) l
def Tr.firstHand (t:Tr):Wtg:=t.hands (fun _ _=>false) t.queue
def Wtg.toTo (w:Wtg) (v f:Nat):Nat→Wtg
 | 0=>w
 | t+1=>if (w.toTo v f t) f v && (w.toTo v f t) v t then (w.toTo v f t).set f t true else w.toTo v f t
def Wtg.fromTo (w:Wtg) (v:Nat):Nat→Wtg
 | 0=>w
 | f+1=>(w.fromTo v f).toTo v f 4
def Wtg.viaTo (w:Wtg):Nat→Wtg
 | 0=>w
 | v+1=>(w.viaTo v).fromTo v 4
def Wtg.closed (w:Wtg):Wtg:=w.viaTo 4
def Tr.youngest (t:Tr) (n:Nat):Option Nat:=t.begun.reverse.find? (fun o=>t.firstHand.closed n o && t.firstHand.closed o n)
def PS.ringsN (q n:Nat):Nat→PS→PS
 | 0,s=>s
 | k+1,s=>match (s.t q).youngest n with
  | none=>s
  | some y=>PS.ringsN q n k (s.setT q ((s.t q).forceT y 2)).settleT
def PS.untold (s:PS) (q n:Nat):PS:=s.setS q n { (s.t q).ses n with ended:=0 }
def PS.ringsT (s:PS) (q n:Nat):PS × Ans :=
 if (((PS.ringsN q n 4 s).t q).ses n).ended=0 then (PS.ringsN q n 4 s,⟨1,0,[]⟩)
 else ((PS.ringsN q n 4 s).untold q n,⟨2,(((PS.ringsN q n 4 s).t q).ses n).ended,[]⟩)
def Tr.joinT (t:Tr) (n:Nat) (x:Stp):Tr:={ t with queue:=t.queue++[n],ses:=upd t.ses n { t.ses n with req:=x } }
def Stp.may (x:Stp):Bool:=if x.op=4∨x.op=5 then sameL x.at_.1 x.at_.2 x.who.1 x.who.2.1 else domB x.who.1 x.who.2.1 x.at_.1 x.at_.2
def PS.askT (s:PS) (q n:Nat) (x:Stp):PS × Ans :=
 if x.may=false then (s,⟨3,0,[]⟩)
 else if ((s.t q).ses n).covB (lkOf x) then s.grantT q n x
 else if s.c≤((s.t q).lockTo 4:Int) then (s,⟨4,0,[]⟩)
 else if (s.setT q ((s.t q).joinT n x)).hindB q n then (s.setT q ((s.t q).joinT n x)).ringsT q n
 else (((s.setT q ((s.t q).joinT n x)).admitT q n).1.settleT,((s.setT q ((s.t q).joinT n x)).admitT q n).2)
def PS.beginT (s:PS) (q n:Nat):PS × Ans :=
 if hasB (s.t q).begun n then (s,⟨6,0,[]⟩)
 else if s.v≤((s.t q).begun.length:Int) then (s,⟨4,0,[]⟩)
 else (s.setB q ((s.t q).begun++[n]),⟨0,0,[]⟩)
def PS.abortT (s:PS) (q n:Nat):PS × Ans:=if hasB (s.t q).begun n then (s.finishT q n,⟨0,0,[]⟩) else (s,⟨5,0,[]⟩)
def PS.commitT (s:PS) (q n:Nat):PS × Ans:=((s.setI q (((s.t q).ses n).wr.over (s.t q).items)).finishT q n,⟨0,0,[]⟩)
def PS.heard (s:PS) (q n:Nat):PS:=s.setS q n { (s.t q).ses n with out:=⟨0,0,[]⟩,came:=false }
def PS.pollT (s:PS) (q n:Nat):PS × Ans :=
 if hasB (s.t q).queue n then (s,⟨1,0,[]⟩)
 else if ((s.t q).ses n).came then (s.heard q n,((s.t q).ses n).out) else (s,⟨8,0,[]⟩)
def Tr.busyB (t:Tr) (n:Nat):Bool:=(t.ses n).came || hasB t.queue n
def PS.actT (s:PS) (q n:Nat) (x:Stp):PS × Ans :=
 if ((s.t q).ses n).ended≠0 then (s.untold q n,⟨2,((s.t q).ses n).ended,[]⟩)
 else if x.op=8 then s.pollT q n
 else if x.op=7 then s.abortT q n
 else if (s.t q).busyB n then (s,⟨7,0,[]⟩)
 else if x.op=1 then s.beginT q n
 else if hasB (s.t q).begun n=false then (s,⟨5,0,[]⟩)
 else if x.op=6 then s.commitT q n
 else s.askT q n x
def numOf (x:Wh):Nat:=x.2.2.toNat
theorem labOf_ok {q:Nat} (h:q < 32):labB (labOf q).1 (labOf q).2=true:=labB_mk (by unfold labOf; omega)
theorem plOf_labOf {q:Nat} (h:q < 32):plOf (labOf q)=q:=by unfold plOf placeOf labOf; omega
theorem labOf_plOf {a:Lab} (h:labB a.1 a.2=true):labOf (plOf a)=a:=by
 obtain ⟨x,y⟩:=a
 obtain ⟨h1,h2,h3,h4⟩:=labB_t h
 unfold plOf placeOf labOf
 simp only [Prod.mk.injEq] at *
 omega
theorem plOf_lt {a:Lab} (h:labB a.1 a.2=true):plOf a < 32:=(placeOf_eq h).2
def lkV (l:Lk):Value:=.agg #[.int .i64 l.at_.1,.int .i64 l.at_.2,.int .i64 l.lo,.int .i64 l.hi,.bool l.wr]
theorem and_ok {b d:Int} (hb:0≤b∧b≤7) (hd:0≤d∧d≤7):(bits BinOp.and IntKind.i64 b d == d)=okTo b d 3:=by
 have h:∀ x y:Fin 8,(bits BinOp.and IntKind.i64 (x.val:Int) (y.val:Int) == (y.val:Int))=okTo (x.val:Int) (y.val:Int) 3:=by decide +kernel
 have:=h ⟨b.toNat,by omega⟩ ⟨d.toNat,by omega⟩
 simp only at this
 rw [show ((b.toNat:Nat):Int)=b by omega,show ((d.toNat:Nat):Int)=d by omega] at this
 exact this
theorem dom_any (a b c d:Int) (w:World) (h1:labB a b=true) (h2:labB c d=true) :
  Calls Try.prog 95 #[.agg #[.int .i64 a,.int .i64 b],.agg #[.int .i64 c,.int .i64 d]] w fun e w'=>e=.returned (.bool (domB a b c d))∧Below w.heap.size w w':=by
 obtain ⟨_,_,x1,x2⟩:=labB_t h1
 obtain ⟨_,_,y1,y2⟩:=labB_t h2
 have Hq:Hid ((bits BinOp.and IntKind.i64 b d == d)=okTo b d 3):=and_ok ⟨x1,x2⟩ ⟨y1,y2⟩
 clear h1 h2 x1 x2 y1 y2
 by_cases hc:c≤a
 ·go_enter Try.func95,Try.ntmps95
  go_wp2
  go_ret
  refine ⟨ret_bool ?_,below2r⟩
  simp [domB,hc,← Hq.out]
 ·go_enter Try.func95,Try.ntmps95
  go_wp2
  go_ret
  refine ⟨ret_bool ?_,below2r⟩
  have:decide (c≤a)=false:=by simp; omega
  simp [domB,this]
def LkPost (w:World) (r:Lk) (e:Ending) (w':World):Prop:=e=.returned (lkV r)∧Below w.heap.size w w'
theorem below3r {w:World} {o1 o2 o3:Obj}:Below w.heap.size w (((w.alloc o1).alloc o2).alloc o3):=(((Below.refl _ _).alloc (Nat.le_refl _) _).alloc (by simp) _).alloc (by simp; omega) _
theorem asked_post (x:Stp) (w:World):Calls Try.prog 75 #[stepV x] w (LkPost w (lkOf x)):=by
 obtain ⟨⟨x0,x1,x2⟩,op,⟨x3,x4⟩,x5,x6,x7⟩:=x
 unfold stepV
 by_cases h3:op=3
 ·subst h3
  go_enter Try.func75,Try.ntmps75
  go_wp2
  exact bodyPost_ret (v:=.agg #[.int .i64 x3,.int .i64 x4,.int .i64 x5,.int .i64 x6,.bool false]) (by simp [results,Try.results75,go_sem]) rfl ⟨by simp [lkV,lkOf],below3r⟩
 ·by_cases h4:op=4
  ·subst h4
   go_enter Try.func75,Try.ntmps75
   go_wp2
   exact bodyPost_ret (v:=.agg #[.int .i64 x3,.int .i64 x4,.int .i64 x5,.int .i64 x5,.bool true]) (by simp [results,Try.results75,go_sem]) rfl ⟨by simp [lkV,lkOf],below3r⟩
  ·by_cases h5:op=5
   ·subst h5
    go_enter Try.func75,Try.ntmps75
    go_wp2
    exact bodyPost_ret (v:=.agg #[.int .i64 x3,.int .i64 x4,.int .i64 x5,.int .i64 x5,.bool true]) (by simp [results,Try.results75,go_sem]) rfl ⟨by simp [lkV,lkOf],below3r⟩
   ·have g3:(op == 3)=false:=by simpa using h3
    have g4:(op == 4)=false:=by simpa using h4
    have g5:(op == 5)=false:=by simpa using h5
    have Hp:Hid (lkV (lkOf ⟨(x0,x1,x2),op,(x3,x4),x5,x6,x7⟩)=.agg #[.int .i64 x3,.int .i64 x4,.int .i64 x5,.int .i64 x5,.bool false]):=by
     show _=_
     simp [lkV,lkOf,h3,h4,h5]
    clear h3 h4 h5
    go_enter Try.func75,Try.ntmps75
    go_wp2
    exact bodyPost_ret (v:=.agg #[.int .i64 x3,.int .i64 x4,.int .i64 x5,.int .i64 x5,.bool false]) (by simp [results,Try.results75,go_sem]) rfl ⟨by rw [Hp.out],below3r⟩
theorem asked_any (x:Stp) (w:World):Calls Try.prog 75 #[stepV x] w fun e w'=>e=.returned (lkV (lkOf x))∧Below w.heap.size w w':=asked_post x w
def BoolPost (w:World) (b:Bool) (e:Ending) (w':World):Prop:=e=.returned (.bool b)∧Below w.heap.size w w'
theorem covers_post (l r:Lk) (w:World):Calls Try.prog 96 #[lkV l,lkV r] w (BoolPost w (l.covB r)):=by
 obtain ⟨⟨a1,a2⟩,l1,l2,l3⟩:=l
 obtain ⟨⟨b1,b2⟩,r1,r2,r3⟩:=r
 unfold lkV
 go_enter Try.func96,Try.ntmps96
 go_wp2
 all_goals go_ret
 all_goals refine ⟨ret_bool ?_,below2r⟩
 all_goals cases l3<;>cases r3<;>simp_all [Lk.covB,sameL]
 all_goals (first | omega | (intros; omega))
theorem covers_is {l r:Lk} {v:Bool} (h:l.covB r=v) (w:World):Calls Try.prog 96 #[lkV l,lkV r] w fun e w'=>e=.returned (.bool v)∧Below w.heap.size w w':=by
 subst h; exact covers_post l r w
theorem meets_post (l r:Lk) (w:World):Calls Try.prog 123 #[lkV l,lkV r] w (BoolPost w (l.meetB r)):=by
 obtain ⟨⟨a1,a2⟩,l1,l2,l3⟩:=l
 obtain ⟨⟨b1,b2⟩,r1,r2,r3⟩:=r
 unfold lkV
 go_enter Try.func123,Try.ntmps123
 go_wp2
 all_goals go_ret
 all_goals refine ⟨ret_bool ?_,below2r⟩
 all_goals cases l3<;>cases r3<;>simp_all [Lk.meetB,sameL]
 all_goals (first | omega | (intros; omega))
theorem meets_is {l r:Lk} {v:Bool} (h:l.meetB r=v) (w:World):Calls Try.prog 123 #[lkV l,lkV r] w fun e w'=>e=.returned (.bool v)∧Below w.heap.size w w':=by
 subst h; exact meets_post l r w
theorem isKey_any (k:Int) (w:World) (h:0≤k∧k≤15):Calls Try.prog 120 #[.int .i64 k] w fun e w'=>e=.returned (.bool true)∧w=w':=by
 obtain ⟨h1,h2⟩:=h
 go_enter Try.func120,Try.ntmps120
 go_wp2
 go_ret
 exact ⟨ret_bool (by simp; omega),rfl⟩
theorem tabHas_any (p o:Nat) (T:Nat→Option Int) (k:Nat) (w:World) (hk:k < 16) (hr:w.rangeAt p o (tabV T)) :
  Calls Try.prog 130 #[.pointer (some ⟨p,o,none⟩),.int .i64 k] w fun e w'=>e=.returned (.bool (T k).isSome)∧w=w':=by
 have hc:w.cell? ⟨p,o+k*2,none⟩=some (.bool (T k).isSome):=by
  have:=hr (2*k) _ (tabV_get T k hk).1
  rw [Nat.mul_comm k 2]; exact this
 have z1:(k:Int) < 16:=by omega
 clear hr
 go_enter Try.func130,Try.ntmps130
 go_wp2_with fail
 refine (isKey_any k w (by omega)).mono ?_
 rintro e w1 ⟨rfl,rfl⟩
 go_wp2
 go_ret
 exact ⟨rfl,rfl⟩
theorem hasPut_any (p o:Nat) (x:Wrt) (k:Nat) (w:World) (hk:k < 16) (hr:w.rangeAt p o (wrC x)) :
  Calls Try.prog 131 #[.pointer (some ⟨p,o,none⟩),.int .i64 k] w fun e w'=>e=.returned (.bool (x.put k))∧w=w':=by
 have hc:w.cell? ⟨p,o+48+k,none⟩=some (.bool (x.put k)):=by
  rw [Nat.add_assoc]
  refine hr (48+k) _ ?_
  unfold wrC
  rw [List.getElem?_append_right (by rw [len_flagC]; omega),List.getElem?_append_right (by rw [len_flagC,len_tabV]; omega),len_flagC,len_tabV]
  rw [show 48+k - 16 - 32=k by omega]
  exact flagC_at _ hk
 have z1:(k:Int) < 16:=by omega
 clear hr
 go_enter Try.func131,Try.ntmps131
 go_wp2_with fail
 refine (isKey_any k w (by omega)).mono ?_
 rintro e w1 ⟨rfl,rfl⟩
 go_wp2
 go_ret
 exact ⟨rfl,rfl⟩
theorem has_any (own:Own) (tag:Tag) (v:Value) (l:List Nat) (n:Nat) (w:World) (hr:Row w own tag 3 1 v l natC) :
  Calls Try.prog 70 #[v,.int .i64 n] w fun e w'=>e=.returned (.bool (hasB l n))∧w=w':=by
 obtain ⟨ao,cap,rfl,hmax,hel⟩:=hr.form len_natC
 unfold maxLen at hmax
 clear hr
 go_enter Try.func70,Try.ntmps70
 go_wp2_with fail
 go_loop [9] (fun i=>∃ k:Nat,k≤l.length∧i=.int .i64 k∧Hid ((l.drop k).any (fun x=>x == n)=hasB l n)) (fun i=>l.length - (intOf i).toNat)
 case atStart=>exact ⟨0,Nat.zero_le _,rfl,rfl⟩
 case round =>
  obtain ⟨k,hk,rfl,Hl⟩:=hrel
  by_cases hlt:k < l.length
  ·obtain ⟨bt,rfl,_,hbt,hrg,_⟩:=hel k _ (List.getElem?_eq_getElem hlt)
   have gk:=List.getElem?_eq_getElem hlt
   generalize l[k]=t at hrg gk
   have Gk:Hid (l[k]?=some t):=gk
   clear gk
   have y0:w.cell? ⟨bt,k,none⟩=some (.int .i64 t):=by have:=hrg 0 _ rfl; simpa using this
   have zk:(k:Int) < (l.length:Int):=by omega
   clear hrg hel
   cases hs:(t == n)
   ·have hs':(t:Int)≠(n:Int):=by simp at hs; omega
    have Hs:Hid ((t == n)=false):=hs
    clear hs
    go_wp2
    go_round
    case rel =>
     refine ⟨k+1,by omega,by go_num,?_⟩
     have q:=Hl.out
     rw [drop_at Gk.out,List.any_cons,Hs.out,Bool.false_or] at q
     exact q
    case measure=>simp [intOf]; omega
   ·have hs':t=n:=by simpa using hs
    subst hs'
    clear hs
    go_wp2
    go_ret
    refine ⟨ret_bool ?_,rfl⟩
    have q:=Hl.out
    rw [drop_at Gk.out,List.any_cons,beq_self_eq_true,Bool.true_or] at q
    exact q
  ·have e:k=l.length:=by omega
   subst e
   go_wp2
   go_ret
   refine ⟨ret_bool ?_,rfl⟩
   have q:=Hl.out
   rw [List.drop_length,List.any_nil] at q
   exact q
theorem has_is {own:Own} {tag:Tag} {v:Value} {l:List Nat} {n:Nat} {w:World} {b:Bool} (hr:Row w own tag 3 1 v l natC) (h:hasB l n=b) :
  Calls Try.prog 70 #[v,.int .i64 n] w fun e w'=>e=.returned (.bool b)∧w=w':=by
 subst h; exact has_any own tag v l n w hr
theorem lsOff_take (l:List Nat) (n k t:Nat) (h:l[k]?=some t):lsOff (l.take (k+1)) n=lsOff (l.take k) n++(if t == n then [] else [t]):=by
 obtain ⟨hl,he⟩:=List.getElem?_eq_some_iff.1 h
 rw [List.take_succ_eq_append_getElem hl,he]
 unfold lsOff
 rw [List.filter_append]
 congr 1
 cases hb:(t == n)<;>simp [hb]
theorem lsOff_le (l:List Nat) (n k:Nat):(lsOff (l.take k) n).length≤l.length:=by
 unfold lsOff
 exact Nat.le_trans (List.length_filter_le _ _) (by rw [List.length_take]; omega)
theorem infoI:(Try.prog.info? 3).map (fun i=>(i.zero,i.size,i.bytes))=some (some (.int .i64 0),1,8):=by kernel_rfl
theorem one_new (w:World) (x:Value) (c n:Nat) (hn:n=w.heap.size):∀ j u,[x][j]?=some u→(w.alloc (.cells #[x] c)).cell? ((⟨n,0,none⟩:Addr).add j)=some u:=by
 subst hn
 intro j u hj
 match j,hj with
 | 0,hj=>simp at hj; subst hj; simp [Addr.add]
 | j+1,hj=>simp at hj
theorem without_any (own:Own) (tag:Tag) (v:Value) (l:List Nat) (n:Nat) (w:World) (hr:Row w own tag 3 1 v l natC) (hl:l.length≤4) :
  Calls Try.prog 116 #[v,.int .i64 n] w fun e w'=>∃ v',e=.returned v'∧w'.ownsRow w.heap.size 3 1 v' (lsOff l n).length ((lsOff l n).flatMap natC)∧Below w.heap.size w w':=by
 obtain ⟨i0,hi0,hz0,hs0,hb0⟩:=info_all infoI
 obtain ⟨ao,cap,rfl,hmax,hel⟩:=hr.form len_natC
 have Hmax:Hid (l.length≤maxLen):=hmax
 unfold maxLen at hmax
 clear hr
 go_enter Try.func116,Try.ntmps116
 go_wp2_with fail
 go_loopw [5,10] (fun v i wr=>∃ k:Nat,k≤l.length∧i=.int .i64 k∧wr.ownsRow w.heap.size 3 1 v (lsOff (l.take k) n).length ((lsOff (l.take k) n).flatMap natC)∧Below w.heap.size w wr) (fun _ i _=>l.length - (intOf i).toNat)
 case atStart=>exact ⟨0,Nat.zero_le _,rfl,World.ownsRow_nil _ _ _ _,Below.refl _ _⟩
 case round =>
  obtain ⟨k,hk,rfl,hown,hnx⟩:=hrel
  have hnz:=hnx.size
  by_cases hlt:k < l.length
  ·obtain ⟨bt,rfl,_,hbt,hrg,_⟩:=hel k _ (List.getElem?_eq_getElem hlt)
   have gk:=List.getElem?_eq_getElem hlt
   generalize l[k]=t at hrg gk
   have Gk:Hid (l[k]?=some t):=gk
   clear gk
   have y0:wr.cell? ⟨bt,k,none⟩=some (.int .i64 t):=by
    have:=rangeAt_below hrg hnx hbt 0 _ rfl; simpa using this
   have zk:(k:Int) < (l.length:Int):=by omega
   clear hrg hel
   cases hs:(t == n)
   ·have hs':(t:Int)≠(n:Int):=by simp at hs; omega
    have Hs:Hid (lsOff (l.take (k+1)) n=lsOff (l.take k) n++[t]):=by rw [lsOff_take l n k t Gk.out,hs]; rfl
    have Hle:Hid ((lsOff (l.take k) n).length < l.length):=by
     have h1:=lsOff_le l n (k+1)
     rw [Hs.out] at h1
     simp at h1
     exact h1
    clear hs
    go_wp2_with (at_builtin; refine wpList_append_own _ rfl _ _ 49 rfl w.heap.size 3 i0 (.int .i64 0) 1 8 Try.underlying49 hi0 hz0 hs0 hb0 rfl (by decide) _ _ _ rfl (hown.alloc _) ⟨wr.heap.size,0,none⟩ 1 1 [.int .i64 t] rfl rfl ?c1 ?c2 ?c3 ?c4 ?c5 ?_)
    case c1=>exact one_new wr _ 3 _ (by simp)
    case c2=>intro u hu; simp at hu; subst hu; rfl
    case c3=>have:=Hle.out; have:=Hmax.out; omega
    case c4=>have:=Hle.out; omega
    case c5=>simp; omega
    intro v' w1 hown' hgrow _
    have hb1:Below w.heap.size w w1:=((hnx.alloc hnz _)).grown hgrow (by simp; omega) (fun k hk=>(hown.lt k hk).1)
    rw [show (lsOff (l.take k) n).length+1=(lsOff (l.take (k+1)) n).length by rw [Hs.out]; simp,
     show (lsOff (l.take k) n).flatMap natC++[.int .i64 t]=(lsOff (l.take (k+1)) n).flatMap natC by rw [Hs.out,List.flatMap_append]; rfl] at hown'
    clear hgrow hown
    go_wp2
    go_roundw
    case rel=>exact ⟨k+1,by omega,by go_num,hown',hb1⟩
    case measure=>simp [intOf]; omega
   ·have hs':t=n:=by simpa using hs
    subst hs'
    have Hs:Hid (lsOff (l.take (k+1)) t=lsOff (l.take k) t):=by rw [lsOff_take l t k t Gk.out,hs]; exact List.append_nil _
    clear hs
    go_wp2
    go_roundw
    case rel=>exact ⟨k+1,by omega,by go_num,by rw [Hs.out]; exact hown,hnx⟩
    case measure=>simp [intOf]; omega
  ·have e:k=l.length:=by omega
   subst e
   rw [List.take_length] at hown
   go_wp2
   go_ret
   exact ⟨_,rfl,hown,hnx⟩
end Go.Proofs.Ytpbcplfpjcacfaa
