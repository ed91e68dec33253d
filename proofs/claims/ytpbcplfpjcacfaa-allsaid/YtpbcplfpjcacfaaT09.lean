import Derived.Test.YtpbcplfpjcacfaaT04
namespace Go.Proofs.Ytpbcplfpjcacfaa
open Go.RowKit
set_option maxRecDepth 100000
set_option maxHeartbeats 8000000
theorem run_buildSlice_one {P:Program} (t elem:TypeId) (i:TypeInfo) (z:Value) (size:Nat) (hu:P.underlying t=some (.slice elem)) (hi:P.info? elem=some i) (hz:i.zero=some z) (hs:i.size=size) (_hzs:z.cells.size=size) (h0:0 < size) (h24:size≤16777216) (cs:Array Value) (hc:cs.size=size) (w:World) :
  (Instr.buildSlice t 1 #[(0,.agg cs)]).run P w=.ok (.slice (some ⟨w.heap.size,0,none⟩) 1 1) (w.alloc (.cells cs elem)):=by
 have hf:=Go.Great.fill_whole h0 [.agg cs] ((Array.range (1*size)).map (z.cells[· % z.cells.size]!)) (by intro v hv; simp at hv; subst hv; exact hc) (by simp)
 have e:(([Value.agg cs].zipIdx 0).map fun x=>(x.2,x.1))=[(0,Value.agg cs)]:=rfl
 rw [e] at hf
 have e2:([Value.agg cs].flatMap fun v=>v.cells.toList).toArray=cs:=by simp [Value.cells]
 rw [e2] at hf
 have h1:¬ (1*size > 2 ^ 24):=by omega
 have h2:¬ (1*size=0):=by omega
 have hs1:(sizeOf elem).run P w=.ok size w:=by simp [sizeOf,typeInfo,hi,hs]
 have hz1:(zeroValue elem).run P w=.ok z w:=by simp [zeroValue,typeInfo,hi,hz]
 unfold Instr.buildSlice
 simp only [Sem.run_bind,run_underlying hu,Result.andThen_ok,hs1,if_neg h1,if_neg h2,hz1,Sem.run_pure,hf,newRow]
 simp
theorem wpList_buildSlice_one {P:Program} {ops:Array Oper} {rest:List Oper} {o:Oper} {a:Act} {w:World} {Q:Exit→Act→World→Prop} (hg:o.guard=none) (t:TypeId) (x:Operand) (ho:o.op=.buildSlice t 1 #[(0,x)])
  (elem:TypeId) (i:TypeInfo) (z:Value) (size:Nat) (hu:P.underlying t=some (.slice elem)) (hi:P.info? elem=some i) (hz:i.zero=some z) (hs:i.size=size) (hzs:z.cells.size=size) (h0:0 < size) (h24:size≤16777216) (cs:Array Value) (hx:a.eval x=.agg cs) (hc:cs.size=size)
  (h:wpList P ops Q rest (a.put o.dst (.slice (some ⟨w.heap.size,0,none⟩) 1 1)) (w.alloc (.cells cs elem))):wpList P ops Q (o :: rest) a w:=by
 refine wpList_plain hg fun K hK=>?_
 unfold Oper.wp execOp
 simp only [ho,List.map_toArray,List.map_cons,List.map_nil,hx,Sem.run_bind,run_buildSlice_one t elem i z size hu hi hz hs hzs h0 h24 cs hc w,Result.andThen_ok]
 exact hK _ _ h
end Go.Proofs.Ytpbcplfpjcacfaa
