import Derived.Test.YtpbcplfpjcacfaaF07
namespace Go.Proofs.Ytpbcplfpjcacfaa
open Go.RowKit
set_option maxRecDepth 100000
set_option maxHeartbeats 8000000
theorem sO_eq (q n:Nat):sO q n=tO q+32+n*79:=rfl
theorem sesC_at (s:Ses) (g:SG) (j:Nat):(sesC s g)[65+j]?=(stepC s.req++([.bool s.came]++(outC s.out g.2++[.int .i64 s.ended])))[j]?:=by
 unfold sesC
 rw [List.getElem?_append_right (by simp; omega),List.getElem?_append_right (by rw [len_wrC]; simp),len_wrC]
 congr 1
 simp
section
variable {w:World} {p o:Nat} {s:Ses} {g:SG}
theorem ses_locks (h:w.rangeAt p o (sesC s g)):w.cell? ⟨p,o,none⟩=some g.1:=h 0 _ rfl
theorem ses_came (h:w.rangeAt p o (sesC s g)):w.cell? ⟨p,o+74,none⟩=some (.bool s.came):=h 74 _ (by rw [show 74=65+9 from rfl,sesC_at]; rfl)
theorem ses_code (h:w.rangeAt p o (sesC s g)):w.cell? ⟨p,o+75,none⟩=some (.int .i64 s.out.code):=h 75 _ (by rw [show 75=65+10 from rfl,sesC_at]; rfl)
theorem ses_why (h:w.rangeAt p o (sesC s g)):w.cell? ⟨p,o+76,none⟩=some (.int .i64 s.out.why):=h 76 _ (by rw [show 76=65+11 from rfl,sesC_at]; rfl)
theorem ses_items (h:w.rangeAt p o (sesC s g)):w.cell? ⟨p,o+77,none⟩=some g.2:=h 77 _ (by rw [show 77=65+12 from rfl,sesC_at]; rfl)
theorem ses_ended (h:w.rangeAt p o (sesC s g)):w.cell? ⟨p,o+78,none⟩=some (.int .i64 s.ended):=h 78 _ (by rw [show 78=65+13 from rfl,sesC_at]; rfl)
theorem ses_req (h:w.rangeAt p o (sesC s g)):w.rangeAt p (o+65) (stepC s.req):=fun j u hj=>by
 have hj9:j < 9:=(List.getElem?_eq_some_iff.1 hj).1
 rw [Nat.add_assoc]
 refine h (65+j) u ?_
 rw [sesC_at,List.getElem?_append_left (by rw [len_stepC]; exact hj9)]
 exact hj
theorem ses_wr (h:w.rangeAt p o (sesC s g)):w.rangeAt p (o+1) (wrC s.wr):=fun j u hj=>by
 have hj9:j < 64:=by rw [← len_wrC]; exact (List.getElem?_eq_some_iff.1 hj).1
 rw [Nat.add_assoc]
 refine h (1+j) u ?_
 unfold sesC
 rw [List.getElem?_append_right (by simp),List.getElem?_append_left (by rw [len_wrC]; simp; omega)]
 rw [← hj]; congr 1; simp
end
section
variable {w:World} {p q n:Nat} {s:PS} {own:Own} {G:PG}
theorem PMem.begC (m:PMem w p s own G) (hq:q < 32):w.cell? ⟨p,tO q+348,none⟩=some (G.b q):=m.beg q hq
theorem PMem.queC (m:PMem w p s own G) (hq:q < 32):w.cell? ⟨p,tO q+349,none⟩=some (G.q q):=m.que q hq
theorem PMem.sesAt (m:PMem w p s own G) (hq:q < 32) (hn:n < 4):w.rangeAt p (tO q+32+n*79) (sesC ((s.t q).ses n) (G.s q n)):=m.ses q hq n hn
end
theorem isLive_is {w:World} {p q n:Nat} {s:PS} {own:Own} {G:PG} (m:PMem w p s own G) (hq:q < 32) {b:Bool} (hb:hasB (s.t q).begun n=b) :
  Calls Try.prog 57 #[.pointer (some ⟨p,tO q,none⟩),.int .i64 n] w fun e w'=>e=.returned (.bool b)∧w=w':=by
 have hc:=m.begC hq
 have hR:=m.begR q hq
 clear m
 generalize tO q=o at *
 go_enter Try.func57,Try.ntmps57
 go_wp2_with fail
 refine (has_is hR hb).mono ?_
 rintro e w1 ⟨rfl,rfl⟩
 go_wp2
 go_ret
 exact ⟨rfl,rfl⟩
theorem isBusy_is {w:World} {p q n:Nat} {s:PS} {own:Own} {G:PG} (m:PMem w p s own G) (hq:q < 32) (hn:n < 4) {b:Bool} (hb:(s.t q).busyB n=b) :
  Calls Try.prog 55 #[.pointer (some ⟨p,tO q,none⟩),.int .i64 n] w fun e w'=>e=.returned (.bool b)∧w=w':=by
 have hc:=m.queC hq
 have hR:=m.queR q hq
 have hs:=ses_came (m.sesAt hq hn)
 have zn:(n:Int) < 4:=by omega
 clear m
 generalize tO q=o at *
 unfold Tr.busyB at hb
 cases hcm:((s.t q).ses n).came
 ·rw [hcm,Bool.false_or] at hb
  rw [hcm] at hs
  clear hcm
  go_enter Try.func55,Try.ntmps55
  go_wp2_with fail
  refine (has_is hR hb).mono ?_
  rintro e w1 ⟨rfl,rfl⟩
  go_wp2
  go_ret
  exact ⟨rfl,rfl⟩
 ·rw [hcm,Bool.true_or] at hb
  rw [hcm] at hs
  clear hcm
  subst hb
  go_enter Try.func55,Try.ntmps55
  go_wp2
  go_ret
  exact ⟨rfl,rfl⟩
theorem sesCov_is {w:World} {p o:Nat} {s:Ses} {g:SG} {own:Own} {tag:Tag} {r:Lk} {b:Bool} (hr:w.rangeAt p o (sesC s g)) (hp:p < w.heap.size) (hR:Row w own tag 148 5 g.1 s.locks lkC) (hb:s.covB r=b) :
  Calls Try.prog 76 #[.pointer (some ⟨p,o,none⟩),lkV r] w fun e w'=>e=.returned (.bool b)∧Below w.heap.size w w':=by
 obtain ⟨ao,cap,hv,hmax,hel⟩:=hR.form len_lkC
 have hc:=ses_locks hr
 rw [hv] at hc
 have HB:Hid (s.locks.any (fun l=>l.covB r)=b):=hb
 clear hr hR hv hb
 generalize s.locks=l at *
 unfold maxLen at hmax
 unfold lkV
 go_enter Try.func76,Try.ntmps76
 go_wp2_with fail
 go_loopw [12] (fun i wr=>∃ k:Nat,k≤l.length∧i=.int .i64 k∧Hid ((l.drop k).any (fun l=>l.covB r)=b)∧Below (w.heap.size+1) (w.alloc (.cells #[.int .i64 r.at_.1,.int .i64 r.at_.2,.int .i64 r.lo,.int .i64 r.hi,.bool r.wr] 148)) wr) (fun i _=>l.length - (intOf i).toNat)
 case atStart=>exact ⟨0,Nat.zero_le _,rfl,HB,Below.refl _ _⟩
 case round =>
  obtain ⟨k,hk,rfl,Hl,hnx⟩:=hrel
  have hnz:=hnx.size
  simp only [World.size_alloc] at hnz
  have hzz:w.heap.size < wr.heap.size:=by omega
  have x0:wr.cell? ⟨w.heap.size,0,none⟩=some (.int .i64 r.at_.1):=by rw [hnx.cell (p:=⟨w.heap.size,0,none⟩) (by simp)]; simp
  have x1:wr.cell? ⟨w.heap.size,1,none⟩=some (.int .i64 r.at_.2):=by rw [hnx.cell (p:=⟨w.heap.size,1,none⟩) (by simp)]; simp
  have x2:wr.cell? ⟨w.heap.size,2,none⟩=some (.int .i64 r.lo):=by rw [hnx.cell (p:=⟨w.heap.size,2,none⟩) (by simp)]; simp
  have x3:wr.cell? ⟨w.heap.size,3,none⟩=some (.int .i64 r.hi):=by rw [hnx.cell (p:=⟨w.heap.size,3,none⟩) (by simp)]; simp
  have x4:wr.cell? ⟨w.heap.size,4,none⟩=some (.bool r.wr):=by rw [hnx.cell (p:=⟨w.heap.size,4,none⟩) (by simp)]; simp
  by_cases hlt:k < l.length
  ·obtain ⟨bt,rfl,_,hbt,hrg,_⟩:=hel k _ (List.getElem?_eq_getElem hlt)
   have gk:=List.getElem?_eq_getElem hlt
   generalize l[k]=t at hrg gk
   have Gk:Hid (l[k]?=some t):=gk
   clear gk
   have hrg':wr.rangeAt bt (k*5) (lkC t):=rangeAt_below (World.rangeAt_alloc hrg _) hnx (by omega)
   have y0:wr.cell? ⟨bt,k*5,none⟩=some (.int .i64 t.at_.1):=hrg' 0 _ rfl
   have y1:wr.cell? ⟨bt,k*5+1,none⟩=some (.int .i64 t.at_.2):=hrg' 1 _ rfl
   have y2:wr.cell? ⟨bt,k*5+2,none⟩=some (.int .i64 t.lo):=hrg' 2 _ rfl
   have y3:wr.cell? ⟨bt,k*5+3,none⟩=some (.int .i64 t.hi):=hrg' 3 _ rfl
   have y4:wr.cell? ⟨bt,k*5+4,none⟩=some (.bool t.wr):=hrg' 4 _ rfl
   have zk:(k:Int) < (l.length:Int):=by omega
   clear hrg hrg' hel
   cases hs:t.covB r
   ·go_wp2_with fail
    refine (covers_is hs _).mono ?_
    rintro e w1 ⟨rfl,hb1⟩
    have hon:Below (w.heap.size+1) (w.alloc (.cells #[.int .i64 r.at_.1,.int .i64 r.at_.2,.int .i64 r.lo,.int .i64 r.hi,.bool r.wr] 148)) w1:=(hnx.alloc hnz _).trans (hb1.mono (by simp; omega))
    go_wp2
    go_roundw
    case rel =>
     refine ⟨k+1,by omega,by go_num,?_,hon⟩
     have q:=Hl.out
     rw [drop_at Gk.out,List.any_cons,hs,Bool.false_or] at q
     exact q
    case measure=>simp [intOf]; omega
   ·go_wp2_with fail
    refine (covers_is hs _).mono ?_
    rintro e w1 ⟨rfl,hb1⟩
    have hon:Below (w.heap.size+1) (w.alloc (.cells #[.int .i64 r.at_.1,.int .i64 r.at_.2,.int .i64 r.lo,.int .i64 r.hi,.bool r.wr] 148)) w1:=(hnx.alloc hnz _).trans (hb1.mono (by simp; omega))
    go_wp2
    go_ret
    refine ⟨ret_bool ?_,((Below.refl _ _).alloc (Nat.le_refl _) _).trans (hon.mono (by omega))⟩
    have q:=Hl.out
    rw [drop_at Gk.out,List.any_cons,hs,Bool.true_or] at q
    exact q
  ·have e:k=l.length:=by omega
   subst e
   go_wp2
   go_ret
   refine ⟨ret_bool ?_,((Below.refl _ _).alloc (Nat.le_refl _) _).trans (hnx.mono (by omega))⟩
   have q:=Hl.out
   rw [List.drop_length,List.any_nil] at q
   exact q
theorem sesMet_is {w:World} {p o:Nat} {s:Ses} {g:SG} {own:Own} {tag:Tag} {r:Lk} {b:Bool} (hr:w.rangeAt p o (sesC s g)) (hp:p < w.heap.size) (hR:Row w own tag 148 5 g.1 s.locks lkC) (hb:s.metB r=b) :
  Calls Try.prog 121 #[.pointer (some ⟨p,o,none⟩),lkV r] w fun e w'=>e=.returned (.bool b)∧Below w.heap.size w w':=by
 obtain ⟨ao,cap,hv,hmax,hel⟩:=hR.form len_lkC
 have hc:=ses_locks hr
 rw [hv] at hc
 have HB:Hid (s.locks.any (fun l=>l.meetB r)=b):=hb
 clear hr hR hv hb
 generalize s.locks=l at *
 unfold maxLen at hmax
 unfold lkV
 go_enter Try.func121,Try.ntmps121
 go_wp2_with fail
 go_loopw [12] (fun i wr=>∃ k:Nat,k≤l.length∧i=.int .i64 k∧Hid ((l.drop k).any (fun l=>l.meetB r)=b)∧Below (w.heap.size+1) (w.alloc (.cells #[.int .i64 r.at_.1,.int .i64 r.at_.2,.int .i64 r.lo,.int .i64 r.hi,.bool r.wr] 148)) wr) (fun i _=>l.length - (intOf i).toNat)
 case atStart=>exact ⟨0,Nat.zero_le _,rfl,HB,Below.refl _ _⟩
 case round =>
  obtain ⟨k,hk,rfl,Hl,hnx⟩:=hrel
  have hnz:=hnx.size
  simp only [World.size_alloc] at hnz
  have hzz:w.heap.size < wr.heap.size:=by omega
  have x0:wr.cell? ⟨w.heap.size,0,none⟩=some (.int .i64 r.at_.1):=by rw [hnx.cell (p:=⟨w.heap.size,0,none⟩) (by simp)]; simp
  have x1:wr.cell? ⟨w.heap.size,1,none⟩=some (.int .i64 r.at_.2):=by rw [hnx.cell (p:=⟨w.heap.size,1,none⟩) (by simp)]; simp
  have x2:wr.cell? ⟨w.heap.size,2,none⟩=some (.int .i64 r.lo):=by rw [hnx.cell (p:=⟨w.heap.size,2,none⟩) (by simp)]; simp
  have x3:wr.cell? ⟨w.heap.size,3,none⟩=some (.int .i64 r.hi):=by rw [hnx.cell (p:=⟨w.heap.size,3,none⟩) (by simp)]; simp
  have x4:wr.cell? ⟨w.heap.size,4,none⟩=some (.bool r.wr):=by rw [hnx.cell (p:=⟨w.heap.size,4,none⟩) (by simp)]; simp
  by_cases hlt:k < l.length
  ·obtain ⟨bt,rfl,_,hbt,hrg,_⟩:=hel k _ (List.getElem?_eq_getElem hlt)
   have gk:=List.getElem?_eq_getElem hlt
   generalize l[k]=t at hrg gk
   have Gk:Hid (l[k]?=some t):=gk
   clear gk
   have hrg':wr.rangeAt bt (k*5) (lkC t):=rangeAt_below (World.rangeAt_alloc hrg _) hnx (by omega)
   have y0:wr.cell? ⟨bt,k*5,none⟩=some (.int .i64 t.at_.1):=hrg' 0 _ rfl
   have y1:wr.cell? ⟨bt,k*5+1,none⟩=some (.int .i64 t.at_.2):=hrg' 1 _ rfl
   have y2:wr.cell? ⟨bt,k*5+2,none⟩=some (.int .i64 t.lo):=hrg' 2 _ rfl
   have y3:wr.cell? ⟨bt,k*5+3,none⟩=some (.int .i64 t.hi):=hrg' 3 _ rfl
   have y4:wr.cell? ⟨bt,k*5+4,none⟩=some (.bool t.wr):=hrg' 4 _ rfl
   have zk:(k:Int) < (l.length:Int):=by omega
   clear hrg hrg' hel
   cases hs:t.meetB r
   ·go_wp2_with fail
    refine (meets_is hs _).mono ?_
    rintro e w1 ⟨rfl,hb1⟩
    have hon:Below (w.heap.size+1) (w.alloc (.cells #[.int .i64 r.at_.1,.int .i64 r.at_.2,.int .i64 r.lo,.int .i64 r.hi,.bool r.wr] 148)) w1:=(hnx.alloc hnz _).trans (hb1.mono (by simp; omega))
    go_wp2
    go_roundw
    case rel =>
     refine ⟨k+1,by omega,by go_num,?_,hon⟩
     have q:=Hl.out
     rw [drop_at Gk.out,List.any_cons,hs,Bool.false_or] at q
     exact q
    case measure=>simp [intOf]; omega
   ·go_wp2_with fail
    refine (meets_is hs _).mono ?_
    rintro e w1 ⟨rfl,hb1⟩
    have hon:Below (w.heap.size+1) (w.alloc (.cells #[.int .i64 r.at_.1,.int .i64 r.at_.2,.int .i64 r.lo,.int .i64 r.hi,.bool r.wr] 148)) w1:=(hnx.alloc hnz _).trans (hb1.mono (by simp; omega))
    go_wp2
    go_ret
    refine ⟨ret_bool ?_,((Below.refl _ _).alloc (Nat.le_refl _) _).trans (hon.mono (by omega))⟩
    have q:=Hl.out
    rw [drop_at Gk.out,List.any_cons,hs,Bool.true_or] at q
    exact q
  ·have e:k=l.length:=by omega
   subst e
   go_wp2
   go_ret
   refine ⟨ret_bool ?_,((Below.refl _ _).alloc (Nat.le_refl _) _).trans (hnx.mono (by omega))⟩
   have q:=Hl.out
   rw [List.drop_length,List.any_nil] at q
   exact q
theorem aheadIn_drop {l:List Nat} {o n k t:Nat} (h:l[k]?=some t):aheadIn (l.drop k) o n=if t=n then false else if t=o then true else aheadIn (l.drop (k+1)) o n:=by
 rw [drop_at h]; rfl
theorem isAhead_is {w:World} {p q o n:Nat} {s:PS} {own:Own} {G:PG} (m:PMem w p s own G) (hq:q < 32) {b:Bool} (hb:aheadIn (s.t q).queue o n=b) :
  Calls Try.prog 122 #[.pointer (some ⟨p,tO q,none⟩),.int .i64 o,.int .i64 n] w fun e w'=>e=.returned (.bool b)∧w=w':=by
 obtain ⟨ao,cap,hv,hmax,hel⟩:=(m.queR q hq).form len_natC
 have hc:=m.queC hq
 rw [hv] at hc
 have HB:Hid (aheadIn (s.t q).queue o n=b):=hb
 clear m hv hb
 generalize tO q=of at *
 generalize (s.t q).queue=l at *
 unfold maxLen at hmax
 go_enter Try.func122,Try.ntmps122
 go_wp2_with fail
 go_loop [14] (fun i=>∃ k:Nat,k≤l.length∧i=.int .i64 k∧Hid (aheadIn (l.drop k) o n=b)) (fun i=>l.length - (intOf i).toNat)
 case atStart=>exact ⟨0,Nat.zero_le _,rfl,HB⟩
 case round =>
  obtain ⟨k,hk,rfl,Hl⟩:=hrel
  by_cases hlt:k < l.length
  ·obtain ⟨bt,rfl,_,hbt,hrg,_⟩:=hel k _ (List.getElem?_eq_getElem hlt)
   have gk:=List.getElem?_eq_getElem hlt
   generalize l[k]=t at hrg gk
   have Gk:Hid (l[k]?=some t):=gk
   clear gk
   have y0:w.cell? ⟨bt,k,none⟩=some (.int .i64 t):=by have:=hrg 0 _ rfl; simpa using this
   have zk:(k:Int) < (l.length:Int):=by omega
   clear hrg hel
   by_cases h1:t=n
   ·subst h1
    go_wp2
    go_ret
    refine ⟨ret_bool ?_,rfl⟩
    have z:=Hl.out
    rw [aheadIn_drop Gk.out,if_pos rfl] at z
    exact z
   ·have g1:(t:Int)≠(n:Int):=by omega
    have H1:Hid (¬ t=n):=h1
    clear h1
    by_cases h2:t=o
    ·subst h2
     go_wp2
     go_ret
     refine ⟨ret_bool ?_,rfl⟩
     have z:=Hl.out
     rw [aheadIn_drop Gk.out,if_neg H1.out,if_pos rfl] at z
     exact z
    ·have g2:(t:Int)≠(o:Int):=by omega
     have H2:Hid (¬ t=o):=h2
     clear h2
     go_wp2
     go_round
     case rel =>
      refine ⟨k+1,by omega,by go_num,?_⟩
      have z:=Hl.out
      rw [aheadIn_drop Gk.out,if_neg H1.out,if_neg H2.out] at z
      exact z
     case measure=>simp [intOf]; omega
  ·have e:k=l.length:=by omega
   subst e
   go_wp2
   go_ret
   refine ⟨ret_bool ?_,rfl⟩
   have z:=Hl.out
   rw [List.drop_length] at z
   exact z
theorem sesMet_at {w:World} {p q n:Nat} {s:PS} {own:Own} {G:PG} (m:PMem w p s own G) (hq:q < 32) (hn:n < 4) {r:Lk} {b:Bool} (hb:((s.t q).ses n).metB r=b) :
  Calls Try.prog 121 #[.pointer (some ⟨p,tO q+32+n*79,none⟩),lkV r] w fun e w'=>e=.returned (.bool b)∧Below w.heap.size w w' :=
 sesMet_is (m.sesAt hq hn) m.lt (m.lockR q hq n hn) hb
theorem sesCov_at {w:World} {p q n:Nat} {s:PS} {own:Own} {G:PG} (m:PMem w p s own G) (hq:q < 32) (hn:n < 4) {r:Lk} {b:Bool} (hb:((s.t q).ses n).covB r=b) :
  Calls Try.prog 76 #[.pointer (some ⟨p,tO q+32+n*79,none⟩),lkV r] w fun e w'=>e=.returned (.bool b)∧Below w.heap.size w w' :=
 sesCov_is (m.sesAt hq hn) m.lt (m.lockR q hq n hn) hb
abbrev lkObj (r:Lk):Obj:=.cells #[.int .i64 r.at_.1,.int .i64 r.at_.2,.int .i64 r.lo,.int .i64 r.hi,.bool r.wr] 148
theorem any_to {f:Nat→Bool} {n:Nat} {b:Bool} (h:(List.range 4).any f=b) (h1:n < 4) (h2:f n=true):b=true:=by
 rw [← h,List.any_eq_true]; exact ⟨n,List.mem_range.2 h1,h2⟩
theorem any_none {f:Nat→Bool} {b:Bool} (h:(List.range 4).any f=b) (h2:∀ i,i < 4→f i=false):b=false:=by
 rw [← h,List.any_eq_false]; intro i hi; rw [h2 i (List.mem_range.1 hi)]; simp
theorem trMet_is {w:World} {p q:Nat} {s:PS} {own:Own} {G:PG} (m:PMem w p s own G) (hq:q < 32) {r:Lk} {b:Bool} (hb:(s.t q).metB r=b) :
  Calls Try.prog 100 #[.pointer (some ⟨p,tO q,none⟩),lkV r] w fun e w'=>e=.returned (.bool b)∧Below w.heap.size w w':=by
 have M:Hid (PMem w p s own G):=m
 have hp:=m.lt
 have HB:Hid ((List.range 4).any (fun n=>((s.t q).ses n).metB r)=b):=hb
 clear m hb
 unfold lkV
 go_enter Try.func100,Try.ntmps100
 go_wp2_with fail
 go_loopw [6] (fun i wr=>∃ k:Nat,k≤4∧i=.int .i64 k∧Hid (∀ i,i < k→((s.t q).ses i).metB r=false)∧Below (w.heap.size+1) (w.alloc (lkObj r)) wr) (fun i _=>4 - (intOf i).toNat)
 case atStart=>exact ⟨0,Nat.zero_le _,rfl,fun i hi=>absurd hi (Nat.not_lt_zero i),Below.refl _ _⟩
 case round =>
  obtain ⟨k,hk,rfl,Hl,hnx⟩:=hrel
  have hnz:=hnx.size
  simp only [World.size_alloc] at hnz
  have hB0:Below w.heap.size w wr:=((Below.refl _ _).alloc (Nat.le_refl _) _).trans (hnx.mono (by omega))
  have x0:wr.cell? ⟨w.heap.size,0,none⟩=some (.int .i64 r.at_.1):=by rw [hnx.cell (p:=⟨w.heap.size,0,none⟩) (by simp)]; simp
  have x1:wr.cell? ⟨w.heap.size,1,none⟩=some (.int .i64 r.at_.2):=by rw [hnx.cell (p:=⟨w.heap.size,1,none⟩) (by simp)]; simp
  have x2:wr.cell? ⟨w.heap.size,2,none⟩=some (.int .i64 r.lo):=by rw [hnx.cell (p:=⟨w.heap.size,2,none⟩) (by simp)]; simp
  have x3:wr.cell? ⟨w.heap.size,3,none⟩=some (.int .i64 r.hi):=by rw [hnx.cell (p:=⟨w.heap.size,3,none⟩) (by simp)]; simp
  have x4:wr.cell? ⟨w.heap.size,4,none⟩=some (.bool r.wr):=by rw [hnx.cell (p:=⟨w.heap.size,4,none⟩) (by simp)]; simp
  have M2:Hid (PMem wr p s own G):=M.out.below hB0
  by_cases hlt:k < 4
  ·have zk:(k:Int) < 4:=by omega
   have kne:=kin_some wr
   have kx0:=kin_cell x0
   have kx1:=kin_cell x1
   have kx2:=kin_cell x2
   have kx3:=kin_cell x3
   have kx4:=kin_cell x4
   clear x0 x1 x2 x3 x4
   cases hs:((s.t q).ses k).metB r
   ·go_wp2_with fail
    refine wp_region_kin (by kernel_rfl) (by kernel_rfl) ?_
    repeat (first | go_big_quiet_step ((go_at_call 121; exact Calls.kin (sesMet_at (M2.out.below (Kin.h _)) hq hlt hs))) | quiet_step ((go_at_call 121; exact Calls.kin (sesMet_at (M2.out.below (Kin.h _)) hq hlt hs))))
    refine wpQuiet_nil ?_
    intro _ hw'
    obtain ⟨xq,hw''⟩:=hw'
    subst hw''
    have hon:Below (w.heap.size+1) (w.alloc (lkObj r)) xq.w:=hnx.trans (xq.h.mono hnz)
    go_wp2
    go_roundw
    case rel =>
     refine ⟨k+1,by omega,by go_num,?_,hon⟩
     intro i hi
     by_cases he:i=k
     ·subst he; exact hs
     ·exact Hl.out i (by omega)
    case measure=>simp [intOf]; omega
   ·go_wp2_with fail
    refine wp_region_kin (by kernel_rfl) (by kernel_rfl) ?_
    repeat (first | go_big_quiet_step ((go_at_call 121; exact Calls.kin (sesMet_at (M2.out.below (Kin.h _)) hq hlt hs))) | quiet_step ((go_at_call 121; exact Calls.kin (sesMet_at (M2.out.below (Kin.h _)) hq hlt hs))))
    refine wpQuiet_nil ?_
    intro _ hw'
    obtain ⟨xq,hw''⟩:=hw'
    subst hw''
    have hend:Below w.heap.size w xq.w:=hB0.trans (xq.h.mono (by omega))
    go_wp2
    go_ret
    exact ⟨ret_bool (any_to HB.out hlt hs).symm,hend⟩
  ·have e:k=4:=by omega
   subst e
   go_wp2
   go_ret
   exact ⟨ret_bool (any_none HB.out Hl.out).symm,hB0⟩
theorem lockTo_succ (t:Tr) (n:Nat):t.lockTo (n+1)=t.lockTo n+(t.ses n).locks.length:=by
 simp [Tr.lockTo,List.range_succ,Nat.add_assoc]
theorem lockTo_le (t:Tr):∀ {n k:Nat},n≤k→t.lockTo n≤t.lockTo k
 | n,0,h=>by rw [Nat.le_zero.1 h]; exact Nat.le_refl _
 | n,k+1,h=>by
  by_cases e:n=k+1
  ·rw [e]; exact Nat.le_refl _
  ·rw [lockTo_succ]; exact Nat.le_trans (lockTo_le t (n:=n) (k:=k) (by omega)) (Nat.le_add_right _ _)
theorem Row.lens {α:Type} {w:World} {own:Own} {tag:Tag} {e size:Nat} {v:Value} {l:List α} {f:α→List Value} (h:Row w own tag e size v l f) (hf:∀ x,(f x).length=size):∃ ao cap,v=.slice ao l.length cap∧l.length≤maxLen:=by
 obtain ⟨ao,cap,h1,h2,_⟩:=h.form hf
 exact ⟨ao,cap,h1,h2⟩
theorem locks_is {w:World} {p q:Nat} {s:PS} {own:Own} {G:PG} (m:PMem w p s own G) (hq:q < 32) (h32:(s.t q).lockTo 4≤32) :
  Calls Try.prog 78 #[.pointer (some ⟨p,tO q,none⟩)] w fun e w'=>e=.returned (.int .i64 ((s.t q).lockTo 4:Nat))∧w=w':=by
 obtain ⟨ao,cap,hv,hmax⟩:=(m.queR q hq).lens len_natC
 have hc:=m.queC hq
 rw [hv] at hc
 have M:Hid (PMem w p s own G):=m
 clear m hv
 have H0:Hid ((s.t q).queue.length=(s.t q).lockTo 0):=by simp [Tr.lockTo,Hid]
 have h0:(s.t q).queue.length≤32:=by rw [H0.out]; exact Nat.le_trans (lockTo_le _ (by omega)) h32
 unfold maxLen at hmax
 go_enter Try.func78,Try.ntmps78
 go_wp2_with fail
 go_loop [3,10] (fun v i=>∃ (k c:Nat),k≤4∧i=.int .i64 k∧v=.int .i64 c∧Hid (c=(s.t q).lockTo k)∧c≤32) (fun _ i=>4 - (intOf i).toNat)
 case atStart=>exact ⟨0,_,Nat.zero_le _,rfl,rfl,H0,by omega⟩
 case round =>
  obtain ⟨k,c,hk,rfl,rfl,Hc,hcb⟩:=hrel
  by_cases hlt:k < 4
  ·have zk:(k:Int) < 4:=by omega
   obtain ⟨ao2,cap2,hv2,hmax2⟩:=(M.out.lockR q hq k hlt).lens len_lkC
   have y0:=ses_locks (M.out.sesAt hq hlt)
   rw [hv2] at y0
   clear hv2
   unfold maxLen at hmax2
   have Hs:Hid ((s.t q).lockTo (k+1)=(s.t q).lockTo k+((s.t q).ses k).locks.length):=lockTo_succ _ _
   have hb':c+((s.t q).ses k).locks.length≤32:=by rw [Hc.out,← Hs.out]; exact Nat.le_trans (lockTo_le _ (by omega)) h32
   generalize ((s.t q).ses k).locks.length=z at *
   go_wp2
   go_round
   case rel=>exact ⟨k+1,c+z,by omega,by go_num,by go_num,by show _=_; rw [Hs.out,Hc.out],by omega⟩
   case measure=>simp [intOf]; omega
  ·have e:k=4:=by omega
   subst e
   have he:=Hc.out
   subst he
   go_wp2
   go_ret
   exact ⟨rfl,rfl⟩
theorem isTaken_is {w:World} {p q k:Nat} {s:PS} {own:Own} {G:PG} (m:PMem w p s own G) (hq:q < 32) (hk:k < 16) {b:Bool} (hb:(s.t q).takenB k=b) :
  Calls Try.prog 117 #[.pointer (some ⟨p,tO q,none⟩),.int .i64 k] w fun e w'=>e=.returned (.bool b)∧w=w':=by
 have M:Hid (PMem w p s own G):=m
 have hit:=m.items q hq
 clear m
 unfold Tr.takenB at hb
 cases hi:((s.t q).items k).isSome
 ·rw [hi,Bool.false_or] at hb
  have HB:Hid ((List.range 4).any (fun i=>((s.t q).ses i).wr.put k)=b):=hb
  clear hb
  go_enter Try.func117,Try.ntmps117
  go_wp2_with fail
  refine (tabHas_any p (tO q) _ k w hk hit).mono ?_
  rw [hi]
  rintro e w1 ⟨rfl,rfl⟩
  clear hit
  go_wp2_with fail
  go_loop [11] (fun i=>∃ c:Nat,c≤4∧i=.int .i64 c∧Hid (∀ i,i < c→((s.t q).ses i).wr.put k=false)) (fun i=>4 - (intOf i).toNat)
  case atStart=>exact ⟨0,Nat.zero_le _,rfl,fun i hi=>absurd hi (Nat.not_lt_zero i)⟩
  case round =>
   obtain ⟨c,hc,rfl,Hl⟩:=hrel
   by_cases hlt:c < 4
   ·have zk:(c:Int) < 4:=by omega
    have hw:=ses_wr (M.out.sesAt hq hlt)
    cases hp:((s.t q).ses c).wr.put k
    ·go_wp2_with fail
     refine (hasPut_any p _ _ k w hk hw).mono ?_
     rw [hp]
     rintro e w1 ⟨rfl,rfl⟩
     clear hw
     go_wp2
     go_round
     case rel =>
      refine ⟨c+1,by omega,by go_num,?_⟩
      intro i hi
      by_cases he:i=c
      ·subst he; exact hp
      ·exact Hl.out i (by omega)
     case measure=>simp [intOf]; omega
    ·go_wp2_with fail
     refine (hasPut_any p _ _ k w hk hw).mono ?_
     rw [hp]
     rintro e w1 ⟨rfl,rfl⟩
     clear hw
     go_wp2
     go_ret
     exact ⟨ret_bool (any_to (f:=fun i=>((s.t q).ses i).wr.put k) HB.out hlt hp).symm,rfl⟩
   ·have e:c=4:=by omega
    subst e
    go_wp2
    go_ret
    exact ⟨ret_bool (any_none HB.out Hl.out).symm,rfl⟩
 ·rw [hi,Bool.true_or] at hb
  subst hb
  go_enter Try.func117,Try.ntmps117
  go_wp2_with fail
  refine (tabHas_any p (tO q) _ k w hk hit).mono ?_
  rw [hi]
  rintro e w1 ⟨rfl,rfl⟩
  clear hit
  go_wp2
  go_ret
  exact ⟨rfl,rfl⟩
theorem takenTo_succ (t:Tr) (n:Nat):t.takenTo (n+1)=t.takenTo n+(if t.takenB n then 1 else 0):=by
 simp only [Tr.takenTo,List.range_succ,List.filter_append,List.length_append]
 cases h:t.takenB n<;>simp [h]
theorem trTaken_le (t:Tr) (n:Nat):t.takenTo n≤n:=by
 have:=List.length_filter_le t.takenB (List.range n)
 simpa [Tr.takenTo] using this
theorem taken_is {w:World} {p q:Nat} {s:PS} {own:Own} {G:PG} (m:PMem w p s own G) (hq:q < 32) :
  Calls Try.prog 118 #[.pointer (some ⟨p,tO q,none⟩)] w fun e w'=>e=.returned (.int .i64 ((s.t q).takenTo 16:Nat))∧w=w':=by
 have M:Hid (PMem w p s own G):=m
 clear m
 go_enter Try.func118,Try.ntmps118
 go_wp2_with fail
 go_loop [3,4] (fun v i=>∃ (k c:Nat),k≤16∧i=.int .i64 k∧v=.int .i64 c∧Hid (c=(s.t q).takenTo k)∧c≤k) (fun _ i=>16 - (intOf i).toNat)
 case atStart=>exact ⟨0,0,Nat.zero_le _,rfl,rfl,rfl,by omega⟩
 case round =>
  obtain ⟨k,c,hk,rfl,rfl,Hc,hcb⟩:=hrel
  by_cases hlt:k < 16
  ·have zk:(k:Int) < 16:=by omega
   have Hs:Hid ((s.t q).takenTo (k+1)=(s.t q).takenTo k+(if (s.t q).takenB k then 1 else 0)):=takenTo_succ _ _
   cases hp:(s.t q).takenB k
   ·go_wp2_with fail
    refine (isTaken_is M.out hq hlt hp).mono ?_
    rintro e w1 ⟨rfl,rfl⟩
    go_wp2
    go_round
    case rel=>exact ⟨k+1,c,by omega,by go_num,rfl,by show _=_; rw [Hs.out,Hc.out,hp]; simp,by omega⟩
    case measure=>simp [intOf]; omega
   ·go_wp2_with fail
    refine (isTaken_is M.out hq hlt hp).mono ?_
    rintro e w1 ⟨rfl,rfl⟩
    go_wp2
    go_round
    case rel=>exact ⟨k+1,c+1,by omega,by go_num,by go_num,by show _=_; rw [Hs.out,Hc.out,hp]; simp,by omega⟩
    case measure=>simp [intOf]; omega
  ·have e:k=16:=by omega
   subst e
   have he:=Hc.out
   subst he
   go_wp2
   go_ret
   exact ⟨rfl,rfl⟩
theorem size_step:(Try.prog.info? 30).map (·.size)=some 9:=by kernel_rfl
theorem tier_is {w:World} {p q:Nat} {a:Lab} (h:labB a.1 a.2=true) (hq:plOf a=q) :
  Calls Try.prog 51 #[.pointer (some ⟨p,0,none⟩),.agg #[.int .i64 a.1,.int .i64 a.2]] w fun e w'=>e=.returned (.pointer (some ⟨p,tO q,none⟩))∧Below w.heap.size w w':=by
 have hlt:q < 32:=by rw [← hq]; exact plOf_lt h
 have hpl:=place_nat a.1 a.2 (w.alloc (.cells #[.int .i64 a.1,.int .i64 a.2] 25)) h
 rw [show placeOf a.1 a.2=q from hq] at hpl
 have zi:(q:Int) < 32:=by omega
 go_enter Try.func51,Try.ntmps51
 go_wp2_with fail
 refine hpl.mono ?_
 rintro e w1 ⟨rfl,hb⟩
 have hb0:Below w.heap.size w w1:=((Below.refl _ _).alloc (Nat.le_refl _) _).trans (hb.mono (by simp))
 clear hpl
 go_wp2
 go_ret
 exact ⟨rfl,hb0⟩
theorem trHind_is {w:World} {p q o n:Nat} {s:PS} {own:Own} {G:PG} (m:PMem w p s own G) (hq:q < 32) (ho:o < 4) (hn:n < 4) {b:Bool} (hb:(s.t q).hindB o n=b) :
  Calls Try.prog 101 #[.pointer (some ⟨p,tO q,none⟩),.int .i64 o,.int .i64 n] w fun e w'=>e=.returned (.bool b)∧Below w.heap.size w w':=by
 have M:Hid (PMem w p s own G):=m
 have hp:=m.lt
 have hreq:=ses_req (m.sesAt hq hn)
 have zn:(n:Int) < 4:=by omega
 have zo:(o:Int) < 4:=by omega
 clear m
 unfold Tr.hindB at hb
 by_cases hon:o=n
 ·subst hon
  simp only [beq_self_eq_true,Bool.not_true,Bool.false_and] at hb
  subst hb
  clear hreq
  go_enter Try.func101,Try.ntmps101
  go_wp2
  go_ret
  exact ⟨rfl,Below.refl _ _⟩
 ·have e1:(o == n)=false:=by simpa using hon
  simp only [e1,Bool.not_false,Bool.true_and] at hb
  have z1:(o:Int)≠(n:Int):=by omega
  clear hon e1
  generalize hx:((s.t q).ses n).req=x at *
  clear hx
  go_enter Try.func101,Try.ntmps101
  go_wp2_with (first | (refine wpList_load_mid rfl 30 _ rfl p (tO q+32+n*79+65) rfl (stepC x) _ hreq Try.underlying30 rfl size_step ?_))
  refine (asked_any x _).mono ?_
  rintro e w1 ⟨rfl,hb1⟩
  clear hreq
  have M1:Hid (PMem w1 p s own G):=M.out.below hb1
  generalize lkOf x=r at *
  unfold lkV
  have hB2:Below w.heap.size w (w1.alloc (lkObj r)):=hb1.alloc hb1.size _
  have M2:Hid (PMem (w1.alloc (lkObj r)) p s own G):=M.out.below hB2
  go_wp2_with fail
  obtain ⟨W,hW,HW⟩:∃ W,W=w1.alloc (lkObj r)∧Hid (W=w1.alloc (lkObj r)):=⟨_,rfl,rfl⟩
  rw [← hW] at hB2 M2 ⊢
  have hz1:w1.heap.size < W.heap.size:=by rw [hW]; simp
  have x0:W.cell? ⟨w1.heap.size,0,none⟩=some (.int .i64 r.at_.1):=by rw [hW]; simp
  have x1:W.cell? ⟨w1.heap.size,1,none⟩=some (.int .i64 r.at_.2):=by rw [hW]; simp
  have x2:W.cell? ⟨w1.heap.size,2,none⟩=some (.int .i64 r.lo):=by rw [hW]; simp
  have x3:W.cell? ⟨w1.heap.size,3,none⟩=some (.int .i64 r.hi):=by rw [hW]; simp
  have x4:W.cell? ⟨w1.heap.size,4,none⟩=some (.bool r.wr):=by rw [hW]; simp
  clear hW
  have kne:=kin_some W
  have kx0:=kin_cell x0
  have kx1:=kin_cell x1
  have kx2:=kin_cell x2
  have kx3:=kin_cell x3
  have kx4:=kin_cell x4
  clear x0 x1 x2 x3 x4
  cases hs:((s.t q).ses o).metB r
  ·rw [hs,Bool.false_or] at hb
   refine wp_region_kin (by kernel_rfl) (by kernel_rfl) ?_
   repeat (first | go_big_quiet_step ((go_at_call 121; exact Calls.kin (sesMet_at (M2.out.below (Kin.h _)) hq ho hs))) | quiet_step ((go_at_call 121; exact Calls.kin (sesMet_at (M2.out.below (Kin.h _)) hq ho hs))))
   refine wpQuiet_nil ?_
   intro _ hw'
   obtain ⟨xq,hw''⟩:=hw'
   subst hw''
   have hB3:Below w.heap.size w xq.w:=hB2.trans (xq.h.mono hB2.size)
   have hz3:w1.heap.size < xq.w.heap.size:=Nat.lt_of_lt_of_le hz1 xq.h.size
   have M3:Hid (PMem xq.w p s own G):=M.out.below hB3
   have y0:=kx0 xq
   have y1:=kx1 xq
   have y2:=kx2 xq
   have y3:=kx3 xq
   have y4:=kx4 xq
   have hreq:=ses_req (M3.out.sesAt hq ho)
   clear kx0 kx1 kx2 kx3 kx4 kne
   generalize xq.w=W3 at *
   cases ha:aheadIn (s.t q).queue o n
   ·rw [ha,Bool.false_and] at hb
    subst hb
    clear hreq
    go_wp2_with fail
    refine (isAhead_is M3.out hq ha).mono ?_
    rintro e w4 ⟨rfl,rfl⟩
    go_wp2
    go_ret
    exact ⟨rfl,hB3⟩
   ·rw [ha,Bool.true_and] at hb
    generalize ((s.t q).ses o).req=y at *
    go_wp2_with fail
    refine (isAhead_is M3.out hq ha).mono ?_
    rintro e w4 ⟨rfl,rfl⟩
    go_wp2_with (first | (refine wpList_load_mid rfl 30 _ rfl p (tO q+32+o*79+65) rfl (stepC y) _ hreq Try.underlying30 rfl size_step ?_))
    refine (asked_any y _).mono ?_
    rintro e w5 ⟨rfl,hb5⟩
    clear hreq
    obtain ⟨c5,f5⟩:=bcell hb5
    have hz5:w1.heap.size < w5.heap.size:=Nat.lt_of_lt_of_le hz3 hb5.size
    have hB5:Below w.heap.size w w5:=hB3.trans (hb5.mono hB3.size)
    generalize lkOf y=r2 at *
    unfold lkV
    go_wp2_with fail
    refine (meets_is hb _).mono ?_
    rintro e w6 ⟨rfl,hb6⟩
    have hB6:Below w.heap.size w w6:=(hB5.alloc hB5.size (lkObj r2)).trans (hb6.mono (by simp; have:=hB5.size; omega))
    go_wp2
    go_ret
    exact ⟨rfl,hB6⟩
  ·rw [hs,Bool.true_or] at hb
   subst hb
   refine wp_region_kin (by kernel_rfl) (by kernel_rfl) ?_
   repeat (first | go_big_quiet_step ((go_at_call 121; exact Calls.kin (sesMet_at (M2.out.below (Kin.h _)) hq ho hs))) | quiet_step ((go_at_call 121; exact Calls.kin (sesMet_at (M2.out.below (Kin.h _)) hq ho hs))))
   refine wpQuiet_nil ?_
   intro _ hw'
   obtain ⟨xq,hw''⟩:=hw'
   subst hw''
   have hB3:Below w.heap.size w xq.w:=hB2.trans (xq.h.mono hB2.size)
   go_wp2
   go_ret
   exact ⟨rfl,hB3⟩
end Go.Proofs.Ytpbcplfpjcacfaa
