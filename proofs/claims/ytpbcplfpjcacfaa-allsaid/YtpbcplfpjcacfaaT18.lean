import Derived.Test.YtpbcplfpjcacfaaT17
namespace Go.Proofs.Ytpbcplfpjcacfaa
open Go.RowKit
set_option maxRecDepth 100000
set_option maxHeartbeats 8000000
theorem ChgD.free {own own':Own} {w w':World} (h:ChgD own w w' own') {b j:Nat} (hb:w.heap.size≤b) (u:Value):ChgD own w (w'.setCell ⟨b,j,none⟩ u) own' :=
 ⟨h.os,h.tape,h.output,by simpa using h.size,fun k hk hn=>by rw [heap_setCell_ne _ _ _ _ _ (by omega)]; exact h.block k hk hn,h.fresh⟩
def DoPost (own:Own) (w:World) (r:Nat) (st:RS) (a:Ans) (e:Ending) (w':World):Prop :=
 ∃ v own',e=.returned (ansV a.code a.why v)∧w'.ownsRow 0 94 2 v a.items.length (itemsV a.items)∧Rep w' r st own'∧ChgD own w w' own'∧∀ b,v.ownBlock=some b→own' b=none∧(own b≠none∨w.heap.size≤b)
theorem AnsPost.toDo {own:Own} {w w':World} {r:Nat} {st:RS} {a:Ans} {e:Ending} (h:AnsPost own w r st a e w'):DoPost own w r st a e w':=by
 obtain ⟨v,own',h1,h2,h3,h4,h5⟩:=h
 exact ⟨v,own',h1,ownsRow_lower h2 (Nat.zero_le _),h3,h4.toD,fun b hb=>⟨h5 b hb,.inr (h2.lt b hb).1⟩⟩
def Own.drop (own:Own) (tag:Tag):Own:=fun b=>if own b=some tag then none else own b
theorem Own.drop_keep {own:Own} {tag t:Tag} {b:Nat} (h:own b=some t) (hne:t≠tag):own.drop tag b=some t:=by
 unfold Own.drop
 rw [if_neg (by rw [h]; intro e; exact hne (Option.some.inj e))]; exact h
theorem Mem.drop {w:World} {r:Nat} {st:RS} {own:Own} {g:Gh} {vp vt vr ve:Value} (P:Mem w r st own g vp vt vr ve) {x:Wh} (h:∀ t∈st.txns,t.who=x→t.ready=false):Mem w r st (own.drop (8,x)) g vp vt vr ve:=by
 exact {
  root:=P.root
  rootTag:=Own.drop_keep P.rootTag (by intro e; cases e)
  places:=P.places.frame (fun _ _=>rfl) (fun b hb=>Own.drop_keep hb (by intro e; cases e))
  txns:=P.txns.frame (fun _ _=>rfl) (fun b hb=>Own.drop_keep hb (by intro e; cases e))
  recs:=P.recs.frame (fun _ _=>rfl) (fun b hb=>Own.drop_keep hb (by intro e; cases e))
  ended:=P.ended.frame (fun _ _=>rfl) (fun b hb=>Own.drop_keep hb (by intro e; cases e))
  olds:=fun t ht=>(P.olds t ht).frame (fun _ _=>rfl) (fun b hb=>Own.drop_keep hb (by intro e; cases e))
  puts:=fun t ht=>(P.puts t ht).frame (fun _ _=>rfl) (fun b hb=>Own.drop_keep hb (by intro e; cases e))
  told:=fun t ht hr=>(P.told t ht hr).frame (fun _ _=>rfl) (fun b hb=>Own.drop_keep hb (by
   intro e
   have hw:t.who=x:=by injection e
   have:=h t ht hw
   rw [this] at hr; cases hr))
  toldV:=P.toldV
  old:=fun k hk=>by
   refine P.old k (fun e=>hk ?_)
   unfold Own.drop; rw [e]; simp }
end Go.Proofs.Ytpbcplfpjcacfaa
