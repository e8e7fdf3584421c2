/- The walk of 'CrcMore'. -/
import Derived.Test.YtanhdjdojeoodaaDoorC15
import Derived.Laws.BytesArg
import Derived.Deep.RegionWith
namespace Go.Proofs.YtanhdjdojeoodaaDoor
open Go.RowKit
attribute [local go_sem ↓] Go.wp_at_zero Go.wp_at_succ

def strN (l : List Nat) : ByteArray := (l.map fun (n : Nat) => (n : Int)).foldl (fun r n => r.push (UInt8.ofNat n.toNat)) ByteArray.empty
theorem conv8 {w : World} {v : Value} {l : List Nat} (h : Row8 w v l) : (convert 22 9 v).run Tryd.prog w = .ok (.string (strN l)) w := by
  obtain ⟨ao, c, rfl, _, hc⟩ := h
  rw [run_convert_bytes_string w _ _ _ _ _ _ Tryd.underlying22 Tryd.underlying5 Tryd.underlying9]
  cases ao with
  | none =>
    have hn : l = [] := by
      cases l with
      | nil => rfl
      | cons x r => obtain ⟨_, h, _⟩ := hc 0 (by simp); cases h
    subst hn
    simp [Conv.bytesToString, strN]
  | some a =>
    have hl : (loadCells a l.length).run Tryd.prog w = .ok ((l.map fun (n : Nat) => (n : Int)).map (Value.int .u8)).toArray w := by
      have := run_loadCells_list (P := Tryd.prog) w a (b8 l) (fun j v hj => by
        have hjl : j < l.length := by have := (List.getElem?_eq_some_iff.1 hj).1; simpa [b8] using this
        obtain ⟨a', ha, h1⟩ := hc j hjl
        cases ha
        rw [b8_at l j hjl] at hj
        cases hj
        exact h1)
      rw [b8_len] at this
      rw [this]
      simp [b8, List.map_map, Function.comp_def]
    rw [run_bytesToString w a l.length c _ hl]
    rfl
theorem joinN_more (la lb : List Nat) (ha : ∀ x ∈ la, x < 256) (hb : ∀ x ∈ lb, x < 256) : joinN (crcMore 0 la) (crcMore 0 lb) lb.length = crcMore 0 (la ++ lb) := by
  unfold joinN
  cases lb with
  | nil => simp
  | cons x r =>
    rw [if_neg (by simp; omega), crcMore_join la (x :: r) ha hb]
    simp

/-- What the walk has before its last statement. -/
structure Cm (W w : World) (va vb v : Value) (la lb : List Nat) (g cap : Nat) : Prop where
  kept : Kept (fun _ => False) W w
  a : Row8 w va la
  b : Row8 w vb lb
  all : Row8 w v (la ++ lb)
  head : Row8 w (.slice (some ⟨g, 0, none⟩) la.length cap) la
  room : la.length ≤ cap
  val : v = .slice (some ⟨g, 0, none⟩) (la ++ lb).length cap
theorem Cm.to {W w w' : World} {va vb v : Value} {la lb : List Nat} {g cap : Nat} (h : Cm W w va vb v la lb g cap) (hk : Kept (fun _ => False) w w') : Cm W w' va vb v la lb g cap :=
  ⟨h.kept.trans hk, h.a.kept hk, h.b.kept hk, h.all.kept hk, h.head.kept hk, h.room, h.val⟩
theorem Row8.src' {w : World} {v : Value} {l : List Nat} (h : Row8 w v l) : Src Tryd.prog 1 22 v l.length (b8 l) w := by
  obtain ⟨ao, c, rfl, hb, hc⟩ := h
  cases ao with
  | none =>
    have hn : l = [] := by
      cases l with
      | nil => rfl
      | cons x r => obtain ⟨_, h, _⟩ := hc 0 (by simp); cases h
    subst hn
    exact Src.ofNil _ Tryd.underlying22 _
  | some a => exact Row8.src ⟨some a, c, rfl, hb, hc⟩
end Go.Proofs.YtanhdjdojeoodaaDoor
