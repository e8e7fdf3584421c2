/- Layer 14: acts that came in; few. -/
import Derived.Test.YtoppcohgjmghdaaSN
import Derived.Test.YtoppcohgjmghdaaGR
import Derived.Test.YtoppcohgjmghdaaR2
import Derived.Deep.Strs
import Derived.Deep.Slices
import Derived.Deep.Fields
import Derived.ChangeSame
namespace Go.Proofs.Ytoppcohgjmghdaa
open Go.ChangeShapes Go.WideShapes Go.ChangeAt Go.Deep Go.RowKit
attribute [local go_sem ↓] Go.wp_at_zero Go.wp_at_succ

/-- What is done with a table. -/
structure At where
  kind : Int
  key : ByteArray
  v : Int
def At.cells (x : At) : List Value := [.int .i64 x.kind, .string x.key, .int .i64 x.v]
theorem cfAt : Cf At.cells 3 := ⟨fun _ => rfl, fun x u hu => by
  unfold At.cells at hu
  simp only [List.mem_cons, List.not_mem_nil, or_false] at hu
  rcases hu with rfl | rfl | rfl <;> rfl⟩
structure At.In (x : At) : Prop where
  kind : I64 x.kind
  key : x.key.size ≤ maxLen
  v : I64 x.v
structure ActsIn (W : World) (ao : Option Addr) (L : List At) : Prop where
  at_ : GAt At.cells 3 W ao L
  ok : ∀ x ∈ L, x.In
theorem act_cells {H : Type} {enc : TypeId × Value → H} {W : World} {sp n : Nat} {c0 c1 c2 : Value} {y : DataW H × List MemPlace} (hf : DataW.trod enc Try.prog W sp (fun _ => true) true n 29 [c0, c1, c2] = some y) :
    ∃ x : At, [c0, c1, c2] = x.cells ∧ x.In := by
  obtain ⟨y0, y1, y2, m, _, _, h0, h1, h2⟩ := Go.Deep.trod_struct3 Try.underlying29 (cs := [c0, c1, c2]) hf
  have k0 : Try.prog.cellsOf 3 = 1 := by kernel_rfl
  have k1 : Try.prog.cellsOf 9 = 1 := by kernel_rfl
  simp only [k0, k1, List.drop_zero, List.drop_succ_cons, List.take_succ_cons, List.take_zero] at h0 h1 h2
  obtain ⟨a0, rfl, w0⟩ := trod_i64 Try.underlying3 h0
  obtain ⟨s1, e1, _, w1⟩ := DataW.trod_string Try.underlying9 h1
  obtain ⟨a2, rfl, w2⟩ := trod_i64 Try.underlying3 h2
  injection e1 with e1 _
  subst e1
  exact ⟨⟨a0, s1, a2⟩, rfl, ⟨bd_i64 w0, w1, bd_i64 w2⟩⟩
set_option maxRecDepth 100000 in
theorem acts_of {H : Type} {enc : TypeId × Value → H} {W : World} {sp : Nat} {a : Option Addr} {len cap : Nat} {d : DataW H} {p : List MemPlace}
    (h : DataW.Trod enc Try.prog W sp (fun _ => true) true 22 (.slice a len cap) d p) : ∃ L : List At, L.length = len ∧ ActsIn W a L ∧ len ≤ cap ∧ len ≤ 9223372036854775807 := by
  obtain ⟨fuel, hf⟩ := h
  have k6 : Try.prog.cellsOf 29 = 3 := by kernel_rfl
  rcases open_slice Try.underlying22 hf with ⟨hcs, _⟩ | ⟨x, l, c, m, n, D, Pl, hcs, _, hl, hm, hmm, _, hi⟩
  · simp [Value.cells] at hcs
    obtain ⟨rfl, rfl, rfl⟩ := hcs
    exact ⟨[], rfl, ⟨fun h => absurd h (by simp), fun p hp => (by cases hp)⟩, Nat.le_refl _, by omega⟩
  · simp [Value.cells] at hcs
    obtain ⟨rfl, rfl, rfl⟩ := hcs
    unfold maxLen at hm
    rcases Nat.eq_zero_or_pos len with h0 | h0
    · subst h0
      exact ⟨[], rfl, ⟨fun h => absurd h (by simp), fun p hp => (by cases hp)⟩, by omega, by omega⟩
    · have key0 : ∀ i, i < len → ∃ q : At, (∀ j u, q.cells[j]? = some u → W.cell? (x.add (i * 3 + j)) = some u) ∧ q.In := by
        intro i hi'
        obtain ⟨cs', hc, ht'⟩ := hi i (by simp at hmm; omega)
        rw [k6] at hc
        obtain ⟨hlen, hcl, hat⟩ := World.cells?_some hc
        match cs', hcl with
        | [c0, c1, c2], _ =>
          obtain ⟨q, e, hq⟩ := act_cells ht'
          refine ⟨q, fun j u hj => ?_, hq⟩
          rw [← e] at hj
          have hj2 : j < 3 := by
            have := (List.getElem?_eq_some_iff.1 hj).1
            simpa using this
          have := hat j hj2
          rw [Go.Deep.add_add] at this
          rw [this]
          exact hj
      obtain ⟨g, o, spot⟩ := x
      have hspot : spot = Option.none := by
        obtain ⟨q, hq, _⟩ := key0 0 h0
        have c0 := hq 0 _ rfl
        simpa [Addr.add] using World.cell?_spot c0
      subst hspot
      have key : ∀ i, i < len → ∃ q : At, (∀ j u, q.cells[j]? = some u → W.cell? ⟨g, o + i * 3 + j, none⟩ = some u) ∧ q.In := by
        intro i hi'
        obtain ⟨q, hq, h1⟩ := key0 i hi'
        refine ⟨q, fun j u hj => ?_, h1⟩
        have := hq j u hj
        rwa [Go.WideShapes.add_plain, ← Nat.add_assoc] at this
      obtain ⟨rs, hrs, hp⟩ := choose_list key
      refine ⟨rs, hrs, ⟨fun _ => ⟨g, o, rfl, fun i p hi => (hp i p hi).1⟩, fun p hpm => ?_⟩, hl, by omega⟩
      obtain ⟨i, hi, e⟩ := List.getElem_of_mem hpm
      exact (hp i p (by rw [List.getElem?_eq_getElem hi, e])).2
def fewAt (L : List At) : Bool := decide (L.length ≤ 60) && L.all fun x => decide (x.key.size ≤ 60)
theorem fewAt_ok {L : List At} (h : fewAt L = true) : L.length ≤ 60 ∧ ∀ x ∈ L, x.key.size ≤ 60 := by
  unfold fewAt at h
  rw [Bool.and_eq_true, decide_eq_true_eq, List.all_eq_true] at h
  exact ⟨h.1, fun x hx => by simpa using h.2 x hx⟩
set_option maxRecDepth 100000 in
set_option maxHeartbeats 2000000 in
theorem few14_any (ao : Option Addr) (c : Nat) (L : List At) (w : World) (hr : GAt At.cells 3 w ao L) (hl : L.length ≤ 9223372036854775807) (hsz : ∀ x ∈ L, x.key.size ≤ maxLen) :
    Calls Try.prog 6 #[.slice ao L.length c] w fun e w' => e = .returned (.bool (fewAt L)) ∧ w = w' := by
  by_cases h1 : 60 < L.length
  · have HF : Hid (fewAt L = false) := Lib.hid (by unfold fewAt; rw [decide_eq_false (by omega)]; rfl)
    have q1 : (60 : Int) < (L.length : Int) := by omega
    clear hsz hr
    go_enter Try.func6, Try.ntmps6
    go_wp2
    go_ret
    exact ⟨by rw [HF.out]; rfl, rfl⟩
  · have q1 : ¬ (60 : Int) < (L.length : Int) := by omega
    have HF : Hid (fewAt L = L.all fun x => decide (x.key.size ≤ 60)) := Lib.hid (by unfold fewAt; rw [decide_eq_true (by omega)]; rfl)
    have HR := Lib.hid hr
    have HSZ := Lib.hid hsz
    clear hr hsz
    go_enter Try.func6, Try.ntmps6
    go_wp2
    go_loopg [3] L.length (fun g s3 wr => ∃ i : Nat, i ≤ L.length ∧ g = L.length - i ∧ s3 = .int .i64 i ∧ (L.all fun x => decide (x.key.size ≤ 60)) = ((L.drop i).all fun x => decide (x.key.size ≤ 60)) ∧ w = wr)
    case atStart => exact ⟨0, Nat.zero_le _, rfl, rfl, rfl, rfl⟩
    case round =>
      obtain ⟨i, hil, rfl, rfl, hall, rfl⟩ := hrel
      have HALL := Lib.hid hall
      clear hall
      by_cases hd : i < L.length
      · obtain ⟨g, o, rfl, hrec⟩ := HR.out (by omega)
        have hi := List.getElem?_eq_getElem hd
        have hdrop : (L.drop i) = L[i] :: L.drop (i + 1) := List.drop_eq_getElem_cons hd
        have hmem : L[i] ∈ L := List.getElem_mem hd
        obtain ⟨r, hrr⟩ : ∃ r, r = L[i] := ⟨_, rfl⟩
        rw [← hrr] at hi hdrop hmem
        have h1' := hrec i r hi 1 (.string r.key) rfl
        have hsA := HSZ.out r hmem
        unfold maxLen at hsA
        obtain ⟨k, A, v⟩ := r
        dsimp only at h1' hsA
        have hdi : (i : Int) < (L.length : Int) := by omega
        have hdi0 : (0 : Int) ≤ (i : Int) := by omega
        have HD := Lib.hid hd
        have HDR := Lib.hid hdrop
        have wi : IntKind.i64.wrap ((i : Int) + 1) = ((i + 1 : Nat) : Int) := by rw [IntWalk.i64_in _ ⟨by omega, by omega⟩]; omega
        clear hrec hi hdrop hmem hrr hd
        by_cases hA : 60 < A.size
        · have q2 : (60 : Int) < (A.size : Int) := by omega
          have q2' : decide (60 < A.size) = true := decide_eq_true hA
          have H3 : Hid (fewAt L = false) := Lib.hid (by rw [HF.out, HALL.out, HDR.out, List.all_cons, decide_eq_false (show ¬ (A.size ≤ 60) by omega)]; rfl)
          go_wp2
          go_ret
          exact ⟨by rw [H3.out]; rfl, rfl⟩
        have q2 : ¬ (60 : Int) < (A.size : Int) := by omega
        have q2' : decide (60 < A.size) = false := decide_eq_false hA
        have H3 : Hid ((L.all fun x => decide (x.key.size ≤ 60)) = ((L.drop (i + 1)).all fun x => decide (x.key.size ≤ 60))) := Lib.hid (by rw [HALL.out, HDR.out, List.all_cons, decide_eq_true (show A.size ≤ 60 by omega)]; rfl)
        go_wp2
        go_roundg (L.length - (i + 1))
        case measure => have := HD.out; omega
        case rel => exact ⟨i + 1, HD.out, rfl, rfl, H3.out, rfl⟩
      · obtain rfl : i = L.length := by omega
        have hdi : ¬ (L.length : Int) < (L.length : Int) := by omega
        have H3 : Hid (fewAt L = true) := Lib.hid (by rw [HF.out, HALL.out, List.drop_length]; rfl)
        go_wp2
        go_ret
        exact ⟨by rw [H3.out]; rfl, rfl⟩
end Go.Proofs.Ytoppcohgjmghdaa
