import Derived.Test.YtpbcplfpjcacfaaF14
namespace Go.Proofs.Ytpbcplfpjcacfaa
open Go.RowKit
set_option maxRecDepth 100000
set_option maxHeartbeats 8000000
structure ReqFit (q n:Nat) (x:Stp):Prop extends ReqOk q n x where
 own:(lkOf x).wr=true→x.at_=labOf q
structure Tr.Fit (q:Nat) (t:Tr):Prop where
 begN:t.begun.Nodup
 begL:∀ n∈t.begun,n < 4
 queN:t.queue.Nodup
 queL:∀ n∈t.queue,n < 4
 req:∀ n∈t.queue,ReqFit q n (t.ses n).req
 lock:t.lockTo 4≤32
structure PS.Fit (s:PS):Prop where
 tr:∀ q,q < 32→(s.t q).Fit q
 c:s.c≤32
theorem lockTo4 (t:Tr):t.lockTo 4=t.queue.length+((t.ses 0).locks.length+(t.ses 1).locks.length+(t.ses 2).locks.length+(t.ses 3).locks.length):=by
 rw [lockTo_succ,lockTo_succ,lockTo_succ,lockTo_succ]
 simp [Tr.lockTo]
 omega
theorem four_len {l:List Nat} (hn:l.Nodup) (hl:∀ n∈l,n < 4):l.length≤4:=nodup_len l 4 hn hl
theorem PS.Fit.short {s:PS} (F:s.Fit):s.Short:=fun q hq=>⟨four_len (F.tr q hq).begN (F.tr q hq).begL,four_len (F.tr q hq).queN (F.tr q hq).queL⟩
theorem Tr.Fit.locks {q:Nat} {t:Tr} (F:t.Fit q) {n:Nat} (hn:n < 4):(t.ses n).locks.length≤32:=by
 have h:=F.lock
 rw [lockTo4] at h
 rcases (show n=0∨n=1∨n=2∨n=3 by omega) with rfl | rfl | rfl | rfl<;>omega
theorem lsOff_mem {l:List Nat} {n m:Nat}:m∈lsOff l n↔m∈l∧m≠n:=by
 unfold lsOff; rw [List.mem_filter]; simp
theorem lsOff_nodup {l:List Nat} (h:l.Nodup) (n:Nat):(lsOff l n).Nodup:=h.sublist List.filter_sublist
theorem lsOff_one {l:List Nat} {n:Nat}:l.Nodup→n∈l→(lsOff l n).length+1=l.length:=by
 induction l with
 | nil=>intro _ h; cases h
 | cons a l ih =>
  intro hn hm
  obtain ⟨h1,h2⟩:=List.nodup_cons.1 hn
  by_cases e:a=n
  ·subst e
   have:lsOff (a :: l) a=l:=by
    unfold lsOff
    rw [List.filter_cons_of_neg (by simp)]
    exact List.filter_eq_self.2 (fun x hx=>by simp; intro e; subst e; exact h1 hx)
   rw [this]; rfl
  ·have hm':n∈l:=by
    rcases List.mem_cons.1 hm with h | h
    ·exact absurd h.symm e
    ·exact h
   have:lsOff (a :: l) n=a :: lsOff l n:=by
    unfold lsOff
    rw [List.filter_cons_of_pos (by simpa using e)]
   rw [this,List.length_cons,List.length_cons,ih h2 hm']
theorem Tr.Fit.same {q:Nat} {t u:Tr} (F:t.Fit q) (hb:u.begun=t.begun) (hq:u.queue=t.queue) (hl:∀ n,n < 4→(u.ses n).locks=(t.ses n).locks) (hr:∀ n,n < 4→(u.ses n).req=(t.ses n).req):u.Fit q where
 begN:=by rw [hb]; exact F.begN
 begL:=by rw [hb]; exact F.begL
 queN:=by rw [hq]; exact F.queN
 queL:=by rw [hq]; exact F.queL
 req:=fun n hn=>by rw [hq] at hn; rw [hr n (F.queL n hn)]; exact F.req n hn
 lock:=by
  have:=F.lock
  rw [lockTo4] at this ⊢
  rw [hq,hl 0 (by omega),hl 1 (by omega),hl 2 (by omega),hl 3 (by omega)]; exact this
theorem Tr.Fit.setS {q n:Nat} {t:Tr} {x:Ses} (F:t.Fit q) (hl:x.locks=(t.ses n).locks) (hr:x.req=(t.ses n).req):(t.setS n x).Fit q :=
 F.same rfl rfl (fun m _=>by
  rw [Tr.setS_ses]; split
  ·rename_i e; rw [e]; exact hl
  ·rfl) (fun m _=>by
  rw [Tr.setS_ses]; split
  ·rename_i e; rw [e]; exact hr
  ·rfl)
theorem Tr.Fit.endT {q:Nat} {t:Tr} (F:t.Fit q) (n:Nat):(t.endT n).Fit q where
 begN:=lsOff_nodup F.begN n
 begL:=fun m hm=>F.begL m (lsOff_mem.1 hm).1
 queN:=lsOff_nodup F.queN n
 queL:=fun m hm=>F.queL m (lsOff_mem.1 hm).1
 req:=fun m hm=>by
  have h:=lsOff_mem.1 hm
  show ReqFit q m (upd t.ses n ses0 m).req
  rw [upd_ne _ _ h.2]; exact F.req m h.1
 lock:=by
  have h:=F.lock
  rw [lockTo4] at h ⊢
  have h1:=lsOff_len t.queue n
  have h2:∀ m,((t.endT n).ses m).locks.length≤(t.ses m).locks.length:=fun m=>by
   show (upd t.ses n ses0 m).locks.length≤_
   unfold upd; split
   ·exact Nat.zero_le _
   ·exact Nat.le_refl _
  have:=h2 0; have:=h2 1; have:=h2 2; have:=h2 3
  show (lsOff t.queue n).length+_≤32
  omega
theorem Tr.Fit.forceT {q:Nat} {t:Tr} (F:t.Fit q) (n:Nat) (why:Int):(t.forceT n why).Fit q :=
 (F.endT n).setS (by rw [endT_ses]) (by rw [endT_ses])
theorem Tr.Fit.preTo {q:Nat} {t:Tr} (F:t.Fit q) (r:Lk):∀ k,(t.preTo r k).Fit q
 | 0=>F
 | k+1=>by
  unfold Tr.preTo
  split
  ·exact (Tr.Fit.preTo F r k).forceT k 1
  ·exact Tr.Fit.preTo F r k
theorem PS.Fit.setT {s:PS} (F:s.Fit) {q:Nat} {t:Tr} (h:t.Fit q):(s.setT q t).Fit:=by
 refine ⟨fun q' hq'=>?_,F.c⟩
 show (upd s.t q t q').Fit q'
 unfold upd; split
 ·rename_i e; rw [e]; exact h
 ·exact F.tr q' hq'
theorem PS.Fit.preT {s:PS} (F:s.Fit) (r:Lk):(s.preT r).Fit:=by
 refine ⟨fun q' hq'=>?_,F.c⟩
 show (if _ then _ else _:Tr).Fit q'
 split
 ·exact (F.tr q' hq').preTo r 4
 ·exact F.tr q' hq'
theorem PS.Fit.setS {s:PS} (F:s.Fit) {q n:Nat} {x:Ses} (hq:q < 32) (hl:x.locks=((s.t q).ses n).locks) (hr:x.req=((s.t q).ses n).req):(s.setS q n x).Fit:=F.setT ((F.tr q hq).setS hl hr)
theorem PS.Fit.setW {s:PS} (F:s.Fit) {q n:Nat} (hq:q < 32) (x:Wrt):(s.setW q n x).Fit:=F.setS hq rfl rfl
theorem PS.Fit.putT {s:PS} (F:s.Fit) {q n:Nat} (hq:q < 32) (x:Stp):(s.putT q n x).1.Fit:=by
 unfold PS.putT; split
 ·exact F
 ·exact F.setW hq _
theorem PS.Fit.grantT {s:PS} (F:s.Fit) {q n:Nat} (hq:q < 32) (x:Stp):(s.grantT q n x).1.Fit:=by
 unfold PS.grantT; split
 ·exact F.putT hq x
 ·split
  ·exact F.setW hq _
  ·exact F
theorem Tr.Fit.locked {q n:Nat} {t:Tr} (F:t.Fit q) (hn:n∈t.queue) (r:Lk):((t.leaveT n).setS n { (t.leaveT n).ses n with locks:=((t.leaveT n).ses n).locks++[r] }).Fit q where
 begN:=F.begN
 begL:=F.begL
 queN:=lsOff_nodup F.queN n
 queL:=fun m hm=>F.queL m (lsOff_mem.1 hm).1
 req:=fun m hm=>by
  have h:=lsOff_mem.1 hm
  rw [Tr.setS_ses,if_neg h.2]
  show ReqFit q m (upd t.ses n _ m).req
  rw [upd_ne _ _ h.2]; exact F.req m h.1
 lock:=by
  have h:=F.lock
  rw [lockTo4] at h ⊢
  have h1:=lsOff_one F.queN hn
  have hn4:=F.queL n hn
  have h2:∀ m,(((t.leaveT n).setS n { (t.leaveT n).ses n with locks:=((t.leaveT n).ses n).locks++[r] }).ses m).locks.length=(t.ses m).locks.length+(if m=n then 1 else 0):=fun m=>by
   rw [Tr.setS_ses]
   by_cases e:m=n
   ·rw [if_pos e,if_pos e,leaveT_ses,e]; simp
   ·rw [if_neg e,if_neg e]
    show (upd t.ses n _ m).locks.length=_
    rw [upd_ne _ _ e]; rfl
  show (lsOff t.queue n).length+_≤32
  rw [h2,h2,h2,h2]
  rcases (show n=0∨n=1∨n=2∨n=3 by omega) with rfl | rfl | rfl | rfl<;>simp<;>omega
theorem addLock_leave (s:PS) (q n:Nat) (r:Lk):(s.setT q ((s.t q).leaveT n)).addLock q n r=s.setT q (((s.t q).leaveT n).setS n { ((s.t q).leaveT n).ses n with locks:=(((s.t q).leaveT n).ses n).locks++[r] }):=by
 unfold PS.addLock PS.setS
 rw [setT_t,setT_setT]
theorem PS.Fit.lockT {s:PS} (F:s.Fit) {q n:Nat} (hq:q < 32) (hn:n∈(s.t q).queue) (x:Stp):(s.lockT q n x).Fit:=by
 have h:((s.setT q ((s.t q).leaveT n)).addLock q n (lkOf x)).Fit:=by
  rw [addLock_leave]; exact F.setT ((F.tr q hq).locked hn _)
 unfold PS.lockT; split
 ·exact h.preT _
 ·exact h
theorem PS.Fit.admitT {s:PS} (F:s.Fit) {q n:Nat} (hq:q < 32) (hn:n∈(s.t q).queue):(s.admitT q n).1.Fit:=(F.lockT hq hn _).grantT hq _
theorem PS.Fit.settle1 {s:PS} (F:s.Fit) {q n:Nat} (a:Nat) (hq:q < 32) (hn:n∈(s.t q).queue):(s.settle1 q a n).Fit:=by
 unfold PS.settle1; split
 ·exact (F.admitT hq hn).setS hq rfl rfl
 ·exact F
theorem setS_queue (s:PS) (q n:Nat) (x:Ses) (q':Nat):((s.setS q n x).t q').queue=(s.t q').queue:=by
 rw [setS_t]; split
 ·rename_i e; rw [e]; rfl
 ·rfl
theorem grantT_queue (s:PS) (q n:Nat) (x:Stp) (q':Nat):((s.grantT q n x).1.t q').queue=(s.t q').queue:=by
 unfold PS.grantT; split
 ·unfold PS.putT; split
  ·rfl
  ·exact setS_queue _ _ _ _ _
 ·split
  ·exact setS_queue _ _ _ _ _
  ·rfl
theorem lockT_queue (s:PS) {q n:Nat} {x:Stp} (hq:q < 32) (hx:(lkOf x).wr=true→x.at_=labOf q):((s.lockT q n x).t q).queue=lsOff (s.t q).queue n:=by
 have h:(((s.setT q ((s.t q).leaveT n)).addLock q n (lkOf x)).t q).queue=lsOff (s.t q).queue n:=by
  rw [addLock_leave,setT_t]; rfl
 unfold PS.lockT; split
 ·rename_i hw
  show (if _ then _ else _:Tr).queue=_
  have e:plOf (lkOf x).at_=q:=by
   show plOf x.at_=q
   rw [hx hw]; exact plOf_labOf hq
  rw [if_neg (by rw [e]; omega)]; exact h
 ·exact h
theorem admitT_queue {s:PS} (F:s.Fit) {q n:Nat} (hq:q < 32) (hn:n∈(s.t q).queue):((s.admitT q n).1.t q).queue=lsOff (s.t q).queue n:=by
 unfold PS.admitT
 rw [grantT_queue,lockT_queue s hq ((F.tr q hq).req n hn).own]
theorem settle1_queue {s:PS} (F:s.Fit) {q n a m:Nat} (hq:q < 32) (hn:n∈(s.t q).queue) (hm:m∈(s.t q).queue) (hne:m≠n):m∈((s.settle1 q a n).t q).queue:=by
 unfold PS.settle1; split
 ·unfold PS.tellT
  rw [setS_queue,admitT_queue F hq hn]
  exact lsOff_mem.2 ⟨hm,hne⟩
 ·exact hm
theorem PS.Fit.settleL {q a:Nat} (hq:q < 32):∀ (l:List Nat) (s:PS),s.Fit→l.Nodup→(∀ n∈l,n∈(s.t q).queue)→(PS.settleL q a s l).Fit
 | [],s,F,_,_=>F
 | n :: l,s,F,hn,hl=>by
  obtain ⟨h1,h2⟩:=List.nodup_cons.1 hn
  have hq':=hl n (List.mem_cons_self)
  exact PS.Fit.settleL hq l _ (F.settle1 a hq hq') h2 (fun m hm=>settle1_queue F hq hq' (hl m (List.mem_cons_of_mem _ hm)) (fun e=>h1 (e ▸ hm)))
theorem PS.Fit.settleQ {s:PS} (F:s.Fit) {q:Nat} (a:Nat) (hq:q < 32):(s.settleQ q a).Fit:=PS.Fit.settleL hq _ s F (F.tr q hq).queN (fun _ h=>h)
theorem PS.Fit.settleF {s:PS} (F:s.Fit) (a:Nat):∀ k,a+k≤32→(s.settleF a k).Fit
 | 0,_=>F
 | k+1,h=>(PS.Fit.settleF F a k (by omega)).settleQ a (by omega)
theorem PS.Fit.settleTo {s:PS} (F:s.Fit):∀ a,a≤32→(s.settleTo a).Fit
 | 0,_=>F
 | a+1,h=>(PS.Fit.settleTo F a (by omega)).settleF a (32 - a) (by omega)
theorem PS.Fit.settleT {s:PS} (F:s.Fit):s.settleT.Fit:=F.settleTo 32 (Nat.le_refl _)
theorem settleL_snoc (q a:Nat):∀ (l:List Nat) (s:PS) (n:Nat),PS.settleL q a s (l++[n])=(PS.settleL q a s l).settle1 q a n
 | [],_,_=>rfl
 | m :: l,s,n=>settleL_snoc q a l (s.settle1 q a m) n
theorem settleL_ahead {q a:Nat} (hq:q < 32):∀ (l l2:List Nat) (s:PS),s.Fit→(l++l2).Nodup→(∀ n∈l++l2,n∈(s.t q).queue)→∀ n∈l2,n∈((PS.settleL q a s l).t q).queue
 | [],l2,s,_,_,hl=>fun n hn=>hl n hn
 | m :: l,l2,s,F,hn,hl=>by
  obtain ⟨h1,h2⟩:=List.nodup_cons.1 hn
  have hq':=hl m (List.mem_cons_self)
  exact settleL_ahead hq l l2 _ (F.settle1 a hq hq') h2 (fun n' hn'=>settle1_queue F hq hq' (hl n' (List.mem_cons_of_mem _ hn')) (fun e=>h1 (e ▸ hn')))
def toOpt (v:Int):Option Int:=if 0≤v then some v else none
def rcLk (c:Rc):Lk:=⟨c.at_,c.lo,c.hi,c.write⟩
def RS.locksOf (st:RS) (x:Wh):List Lk:=(st.recs.filter (fun c=>c.who == x && !c.waits)).map rcLk
def RS.waitB (st:RS) (x:Wh):Bool:=st.recs.any (fun c=>c.who == x && c.waits)
def wrtOf (st:RS) (t:Tx):Wrt:=⟨fun k=>knownB t.olds (k:Int),fun k=>if knownB t.olds (k:Int) then toOpt (st.val t.who.lab (k:Int)) else none,fun k=>inB t.puts (k:Int)⟩
def RS.wrOf (st:RS) (x:Wh):Wrt:=match st.txOf x with
 | none=>wrt0
 | some t=>wrtOf st t
def RS.reqOf (st:RS) (x:Wh):Stp:=if st.waitB x then st.stepOf x else stp0
def RS.outOf (st:RS) (x:Wh):Ans:=if st.isReady x then st.toldOf x else ⟨0,0,[]⟩
def RS.sesOf (st:RS) (x:Wh):Ses:=⟨st.locksOf x,st.wrOf x,st.reqOf x,st.isReady x,st.outOf x,st.toldW x⟩
def RS.begOf (st:RS) (q:Nat):List Nat:=(st.txns.filter (fun t=>t.who.lab == labOf q)).map (fun t=>numOf t.who)
def RS.queOf (st:RS) (q:Nat):List Nat:=(st.recs.filter (fun c=>c.waits && c.who.lab == labOf q)).map (fun c=>numOf c.who)
def RS.itemOf (st:RS) (q k:Nat):Option Int:=toOpt (st.comm (labOf q) (k:Int))
def RS.trOf (st:RS) (q:Nat):Tr:=⟨st.itemOf q,fun n=>st.sesOf (whoOf q n),st.begOf q,st.queOf q⟩
def RS.toPS (st:RS):PS:=⟨st.k,st.v,st.c,st.trOf⟩
theorem labOf_inj {q q':Nat} (h:labOf q=labOf q'):q=q':=by
 unfold labOf at h
 simp only [Prod.mk.injEq] at h
 omega
theorem whoOf_lab (q n:Nat):(whoOf q n).lab=labOf q:=rfl
theorem whoOf_inj {q q' n n':Nat} (h:whoOf q n=whoOf q' n'):q=q'∧n=n':=by
 have h1:labOf q=labOf q':=by rw [← whoOf_lab q n,h]; rfl
 have h2:(whoOf q n).2.2=(whoOf q' n').2.2:=by rw [h]
 exact ⟨labOf_inj h1,by unfold whoOf at h2; simp at h2; omega⟩
theorem numOf_whoOf (q n:Nat):numOf (whoOf q n)=n:=by unfold numOf whoOf; simp
theorem ok_who {x:Wh} (h:x.ok):∃ q n,q < 32∧n < 4∧x=whoOf q n:=by
 obtain ⟨⟨h1,h2,h3,h4⟩,h5,h6⟩:=h
 have hl:labB x.1 x.2.1=true:=labB_mk ⟨h1,h2,h3,h4⟩
 refine ⟨plOf x.lab,numOf x,plOf_lt hl,by unfold numOf; omega,?_⟩
 have:=labOf_plOf (a:=x.lab) hl
 unfold whoOf numOf
 rw [this]
 obtain ⟨a,b,c⟩:=x
 simp only [Wh.lab,Prod.mk.injEq,true_and] at *
 omega
theorem toPS_t (st:RS) (q:Nat):st.toPS.t q=st.trOf q:=rfl
theorem toPS_ses (st:RS) (q n:Nat):(st.toPS.t q).ses n=st.sesOf (whoOf q n):=rfl
theorem toPS_at {st st':RS} {q:Nat} {T:Tr} (hk:st'.k=st.k) (hv:st'.v=st.v) (hc:st'.c=st.c) (h1:∀ q',q'≠q→st'.trOf q'=st.trOf q') (h2:st'.trOf q=T):st'.toPS=st.toPS.setT q T:=by
 unfold RS.toPS PS.setT
 simp only [hk,hv,hc]
 congr 1
 funext q'
 unfold upd
 by_cases e:q'=q
 ·rw [if_pos e,e]; exact h2
 ·rw [if_neg e]; exact h1 q' e
theorem trOf_ext {st st':RS} {q:Nat} (h1:∀ k,st'.itemOf q k=st.itemOf q k) (h2:∀ n,st'.sesOf (whoOf q n)=st.sesOf (whoOf q n)) (h3:st'.begOf q=st.begOf q) (h4:st'.queOf q=st.queOf q):st'.trOf q=st.trOf q:=by
 unfold RS.trOf
 rw [funext h1,funext h2,h3,h4]
theorem sesOf_ext {st st':RS} {x:Wh} (hr:st'.recs.filter (fun c=>c.who == x)=st.recs.filter (fun c=>c.who == x)) (ht:st'.txOf x=st.txOf x) (hv:∀ t,st.txOf x=some t→∀ k:Nat,knownB t.olds (k:Int)=true→st'.val x.lab (k:Int)=st.val x.lab (k:Int)) (he:st'.toldW x=st.toldW x):st'.sesOf x=st.sesOf x:=by
 have hl:st'.locksOf x=st.locksOf x:=by
  unfold RS.locksOf
  have:∀ l:List Rc,l.filter (fun c=>c.who == x && !c.waits)=(l.filter (fun c=>c.who == x)).filter (fun c=>!c.waits):=fun l=>by rw [List.filter_filter]; congr 1; funext c; exact Bool.and_comm _ _
  rw [this,this,hr]
 have hw:st'.waitB x=st.waitB x:=by
  unfold RS.waitB
  have:∀ l:List Rc,l.any (fun c=>c.who == x && c.waits)=(l.filter (fun c=>c.who == x)).any (fun c=>c.waits):=fun l=>by rw [List.any_filter]
  rw [this,this,hr]
 have hwr:st'.wrOf x=st.wrOf x:=by
  unfold RS.wrOf
  rw [ht]
  cases h:st.txOf x with
  | none=>rfl
  | some t =>
   have hx:t.who=x:=by have:=List.find?_some h; simpa using this
   show wrtOf st' t=wrtOf st t
   unfold wrtOf
   congr 1
   funext k
   by_cases hk:knownB t.olds (k:Int)=true
   ·rw [if_pos hk,if_pos hk,hx,hv t h k hk]
   ·rw [if_neg hk,if_neg hk]
 have hs:st'.stepOf x=st.stepOf x:=by unfold RS.stepOf; rw [ht]
 have hd:st'.isReady x=st.isReady x:=by unfold RS.isReady; rw [ht]
 have ho:st'.toldOf x=st.toldOf x:=by unfold RS.toldOf; rw [ht]
 unfold RS.sesOf RS.reqOf RS.outOf
 rw [hl,hwr,hw,hs,hd,ho,he]
structure RS.Inv (st:RS):Prop where
 low:∀ c∈st.recs,plOf c.at_≤plOf c.who.lab∧(c.write=true→c.at_=c.who.lab)
 last:st.recs.Pairwise (fun c d=>c.who=d.who→c.waits=false)
 came:st.recs.Pairwise (fun c d=>c.came < d.came)
 clock:∀ c∈st.recs,c.came≤st.clock
 nth:st.txns.Pairwise (fun t u=>t.nth < u.nth)
 begun:∀ t∈st.txns,t.nth≤st.begun
 vals:∀ t∈st.txns,t.step.op=4→0≤t.step.value
 excl:∀ c∈st.recs,∀ d∈st.recs,c.waits=false→d.waits=false→c.at_=c.who.lab→d.who.lab=c.who.lab→c.who≠d.who→meetB c d=false
 cover:∀ t∈st.txns,∀ o∈t.olds,∃ c∈st.recs,c.who=t.who∧c.waits=false∧c.write=true∧c.at_=t.who.lab∧c.lo≤o.1∧o.1≤c.hi
theorem toPS_one {st st':RS} {x:Wh} {q n:Nat} (hx:x=whoOf q n) (hk:st'.k=st.k) (hv:st'.v=st.v) (hc:st'.c=st.c) (hi:∀ q k,st'.itemOf q k=st.itemOf q k) (hb:∀ q,st'.begOf q=st.begOf q) (hq:∀ q,st'.queOf q=st.queOf q) (hs:∀ y,y≠x→st'.sesOf y=st.sesOf y) :
  st'.toPS=st.toPS.setS q n (st'.sesOf x):=by
 refine toPS_at hk hv hc (fun q' hq'=>trOf_ext (hi q') (fun m=>hs _ (fun e=>hq' (whoOf_inj (e.trans hx)).1)) (hb q') (hq q')) ?_
 unfold RS.trOf Tr.setS
 rw [funext (hi q),hb q,hq q]
 congr 1
 funext m
 show st'.sesOf (whoOf q m)=upd (fun n=>st.sesOf (whoOf q n)) n (st'.sesOf x) m
 unfold upd
 by_cases e:m=n
 ·rw [if_pos e,e,hx]
 ·rw [if_neg e]; exact hs _ (fun h=>e (whoOf_inj (h.trans hx)).2)
def RS.mapTx (st:RS) (x:Wh) (f:Tx→Tx):RS:={ st with txns:=st.txns.map (fun t=>if t.who == x then f t else t) }
section
variable {st:RS} {x:Wh} {f:Tx→Tx}
theorem mapTx_who (hf:∀ t,(f t).who=t.who) (t:Tx):(if t.who == x then f t else t).who=t.who:=by split; exact hf t; rfl
theorem mapTx_txOf (hf:∀ t,(f t).who=t.who) (y:Wh):(st.mapTx x f).txOf y=(st.txOf y).map (fun t=>if t.who == x then f t else t):=by
 unfold RS.txOf RS.mapTx
 rw [List.find?_map]
 congr 2
 funext t
 simp only [Function.comp,mapTx_who hf t]
theorem mapTx_other (hf:∀ t,(f t).who=t.who) {y:Wh} (h:y≠x):(st.mapTx x f).txOf y=st.txOf y:=by
 rw [mapTx_txOf hf]
 cases hh:st.txOf y with
 | none=>rfl
 | some t =>
  have:t.who=y:=by have:=List.find?_some hh; simpa using this
  simp [this,h]
theorem mapTx_same (hf:∀ t,(f t).who=t.who):(st.mapTx x f).txOf x=(st.txOf x).map f:=by
 rw [mapTx_txOf hf]
 cases hh:st.txOf x with
 | none=>rfl
 | some t =>
  have:t.who=x:=by have:=List.find?_some hh; simpa using this
  simp [this]
theorem mapTx_begOf (hf:∀ t,(f t).who=t.who) (q:Nat):(st.mapTx x f).begOf q=st.begOf q:=by
 unfold RS.begOf RS.mapTx
 simp only
 rw [List.filter_map,List.map_map]
 have h1:((fun t:Tx=>t.who.lab == labOf q) ∘ fun t=>if t.who == x then f t else t)=fun t=>t.who.lab == labOf q:=by
  funext t; simp only [Function.comp,mapTx_who hf t]
 have h2:((fun t:Tx=>numOf t.who) ∘ fun t=>if t.who == x then f t else t)=fun t=>numOf t.who:=by
  funext t; simp only [Function.comp,mapTx_who hf t]
 rw [h1,h2]
theorem mapTx_comm (hf:∀ t,(f t).who=t.who) (ho:∀ t,(f t).olds=t.olds) (a:Lab) (k:Int):(st.mapTx x f).comm a k=st.comm a k:=by
 unfold RS.comm RS.mapTx
 have:∀ l:List Tx,commIx a k (l.map (fun t=>if t.who == x then f t else t))=commIx a k l:=by
  intro l
  induction l with
  | nil=>rfl
  | cons t l ih =>
   have h1:(if t.who == x then f t else t).who=t.who:=mapTx_who hf t
   have h2:(if t.who == x then f t else t).olds=t.olds:=by split; exact ho t; rfl
   rw [List.map_cons,commIx,commIx,h1,h2,ih]
 simp only [this]
 rfl
theorem mapTx_toPS (hf:∀ t,(f t).who=t.who) (ho:∀ t,(f t).olds=t.olds) {q n:Nat} (hx:x=whoOf q n):(st.mapTx x f).toPS=st.toPS.setS q n ((st.mapTx x f).sesOf x) :=
 toPS_one hx rfl rfl rfl (fun q k=>by unfold RS.itemOf; rw [mapTx_comm hf ho]) (mapTx_begOf hf) (fun _=>rfl) (fun y hy=>sesOf_ext rfl (mapTx_other hf hy) (fun _ _ _ _=>rfl) rfl)
end
theorem sim_unready {st:RS} {x:Wh} {q n:Nat} (hx:x=whoOf q n) (hr:st.isReady x=true):(st.unready x).toPS=st.toPS.heard q n:=by
 have e:st.unready x=st.mapTx x (fun t=>{ t with ready:=false }):=rfl
 have hf:∀ t:Tx,({ t with ready:=false }:Tx).who=t.who:=fun _=>rfl
 rw [e,mapTx_toPS hf (fun _=>rfl) hx]
 unfold PS.heard
 rw [toPS_ses,← hx]
 congr 1
 have ht:=mapTx_same (st:=st) (x:=x) hf
 unfold RS.isReady at hr
 cases hh:st.txOf x with
 | none=>rw [hh] at hr; cases hr
 | some t =>
  rw [hh] at ht
  unfold RS.sesOf RS.reqOf RS.outOf RS.wrOf RS.stepOf RS.isReady RS.toldOf
  rw [ht,hh]
  rfl
theorem sim_tell {st:RS} {x:Wh} {q n:Nat} (hx:x=whoOf q n) (a:Ans) {t:Tx} (ht:st.txOf x=some t):(st.tell x a).toPS=st.toPS.tellT q n a:=by
 have e:st.tell x a=st.mapTx x (fun t=>{ t with ready:=true,told:=a }):=rfl
 have hf:∀ t:Tx,({ t with ready:=true,told:=a }:Tx).who=t.who:=fun _=>rfl
 rw [e,mapTx_toPS hf (fun _=>rfl) hx]
 unfold PS.tellT
 rw [toPS_ses,← hx]
 congr 1
 have ht':=mapTx_same (st:=st) (x:=x) hf
 rw [ht] at ht'
 unfold RS.sesOf RS.reqOf RS.outOf RS.wrOf RS.stepOf RS.isReady RS.toldOf
 rw [ht',ht]
 rfl
theorem eraseP_find {x y:Wh} (h:y≠x):∀ l:List (Wh × Int),(l.eraseP (isW x)).find? (isW y)=l.find? (isW y)
 | []=>rfl
 | e :: l=>by
  rw [List.eraseP_cons]
  cases hb:isW x e with
  | true =>
   have hx:=(isW_iff x e).1 hb
   have hy:isW y e=false:=by
    cases hh:isW y e with
    | false=>rfl
    | true=>exact absurd (((isW_iff y e).1 hh).symm.trans hx) h
   simp [hy]
  | false =>
   simp only [cond_false,List.find?_cons]
   rw [eraseP_find h l]
theorem sim_toldT {N:Nat} {st:RS} (F:st.Fit N) {x:Wh} {q n:Nat} (hx:x=whoOf q n):(st.toldT x).toPS=st.toPS.untold q n:=by
 have h:=toPS_one (st:=st) (st':=st.toldT x) hx rfl rfl rfl (fun _ _=>rfl) (fun _=>rfl) (fun _=>rfl) (fun y hy=>sesOf_ext rfl rfl (fun _ _ _ _=>rfl) (by unfold RS.toldW RS.toldT; simp only [eraseP_find hy]))
 rw [h]
 unfold PS.untold
 rw [toPS_ses,← hx]
 congr 1
 have h0:(st.toldT x).toldW x=0:=by
  have hg:=told_gone F x
  unfold RS.toldW
  rw [List.find?_eq_none.2 (fun e he=>by
   intro hc
   exact hg e he ((isW_iff x e).1 hc))]
 unfold RS.sesOf
 rw [h0]
 rfl
end Go.Proofs.Ytpbcplfpjcacfaa
