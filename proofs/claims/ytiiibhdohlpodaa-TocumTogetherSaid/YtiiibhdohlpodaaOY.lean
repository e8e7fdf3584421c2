/- Layers 15, 16: what walks on whole boxes need (out of O7, O8). -/
import Derived.Test.YtiiibhdohlpodaaO5
import Derived.Deep.MidRow
namespace Go.Proofs.Ytiiibhdohlpodaa
open Go.RowKit
attribute [local go_sem ↓] Go.wp_at_zero Go.wp_at_succ

/-- A whole value is loaded out of a row. -/
theorem wpList_load_part {P : Program} {ops : Array Oper} {rest : List Oper} {op : Oper} {a : Act} {w : World} {Q : Exit → Act → World → Prop} (hgd : op.guard = none) (ty : TypeId) (x : Operand) (ho : op.op = .load ty x)
    (b o : Nat) (hx : a.eval x = .pointer (some ⟨b, o, none⟩)) (cs : Array Value) (d : TypeDesc) (hc : w.rangeAt b o cs.toList)
    (hu : P.underlying ty = some d) (hd : d.isRow = true) (hi : (P.info? ty).map (·.size) = some cs.size)
    (h : wpList P ops Q rest (a.put op.dst (.agg cs)) w) : wpList P ops Q (op :: rest) a w :=
  wpList_load_mid hgd ty x ho b o hx cs.toList d hc hu hd (by simpa using hi) (by simpa using h)
theorem exec_load_part {P : Program} {o : Oper} {a : Act} {w : World} (ty : TypeId) (x : Operand) (ho : o.op = .load ty x)
    (b f : Nat) (hx : a.eval x = .pointer (some ⟨b, f, none⟩)) (cs : Array Value) (d : TypeDesc) (hc : w.rangeAt b f cs.toList)
    (hu : P.underlying ty = some d) (hd : d.isRow = true) (hi : (P.info? ty).map (·.size) = some cs.size) : (execOp a.eval o).run P w = .ok (.value (.agg cs)) w := by
  have := run_loadVar_mid (P := P) w b f ty cs.toList d hc hu hd (by simpa using hi)
  unfold execOp
  simp only [ho, hx, Instr.loadAt, Instr.sureAddr, Sem.run_bind, Sem.run_pure, Result.andThen_ok, this]
theorem PtsIn.on {W w : World} {ao : Option Addr} {L : List PtV} (h : PtsIn W ao L) (k : Kept (fun _ => False) W w) : PtsIn w ao L := ⟨h.at_.kept k, fun p hp => ⟨(h.each p hp).1.on k, (h.each p hp).2⟩⟩
theorem range_of {w : World} {g o i : Nat} {p : PtV} (h : ∀ j u, (cellsPt p)[j]? = some u → w.cell? ⟨g, o + i * 17 + j, none⟩ = some u) : w.rangeAt g (o + i * 17) p.cs.toList := fun j v hv => h j v hv
theorem pt_size (p : PtV) : (Try.prog.info? 37).map (·.size) = some p.cs.size := point_info
/-- Points that are few and light. -/
def someB (L : List PtV) : Bool := decide (L.length ≤ 20) && L.all fun p => lightP p.x
theorem all_take_succ {α : Type} {f : α → Bool} {L : List α} {i : Nat} {x : α} (h : L[i]? = some x) : (L.take (i + 1)).all f = ((L.take i).all f && f x) := by
  rw [List.take_add_one, h]; simp
theorem all_false {α : Type} {f : α → Bool} {L : List α} {i : Nat} {x : α} (h : L[i]? = some x) (hf : f x = false) : L.all f = false := by
  rw [List.all_eq_false]
  exact ⟨x, List.mem_of_getElem? h, by rw [hf]; decide⟩
theorem zeroHV_ok : zeroHV.ok := ⟨by unfold zeroHV; decide, by unfold zeroHV; decide, by unfold zeroHV; decide, fun x hx => (by cases hx), by unfold zeroHV; decide, fun x hx => (by cases hx)⟩
end Go.Proofs.Ytiiibhdohlpodaa
