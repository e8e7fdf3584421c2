/- Layer 18: what is done (do), whatever its kind; few; acts that came in. -/
import Derived.Test.YtdhfalcjohfdkaaSP
import Derived.Test.YtdhfalcjohfdkaaSQ
import Derived.Test.YtdhfalcjohfdkaaR2
import Derived.Lib.SmallJoins
import Derived.Deep.Strs
import Derived.Deep.Slices
import Derived.Deep.Fields
import Derived.ChangeSame
namespace Go.Proofs.Ytdhfalcjohfdkaa
open Go.ChangeShapes Go.WideShapes Go.ChangeAt Go.Deep Go.RowKit
attribute [local go_sem ↓] Go.wp_at_zero Go.wp_at_succ

theorem do_any (W : World) (db mb : Nat) (L : List (ByteArray × Fi)) (rb : Nat) (ao : Option Addr) (cp : Nat) (LR : List RF) (D D' : DA) (x : Ac) (w : World) (h : Half W w db mb L rb ao cp LR D D') (hx : x.Ok W) :
    Calls Try.prog 12 #[.pointer (some ⟨db, 0, none⟩), .pointer (some ⟨rb, 0, none⟩), .agg x.box] w (DoTo W db mb rb (actD D x) (actD D' x)) := by
  by_cases hk : 0 ≤ x.kind ∧ x.kind ≤ 8
  · obtain e | e | e | e | e | e | e | e | e : x.kind = 0 ∨ x.kind = 1 ∨ x.kind = 2 ∨ x.kind = 3 ∨ x.kind = 4 ∨ x.kind = 5 ∨ x.kind = 6 ∨ x.kind = 7 ∨ x.kind = 8 := by omega
    · exact do_create W db mb L rb ao cp LR D D' x w h hx e
    · exact do_append W db mb L rb ao cp LR D D' x w h hx e
    · exact do_sync W db mb L rb ao cp LR D D' x w h hx e
    · exact do_cut W db mb L rb ao cp LR D D' x w h hx e
    · exact do_rename W db mb L rb ao cp LR D D' x w h hx e
    · exact do_remove W db mb L rb ao cp LR D D' x w h hx e
    · exact do_fail W db mb L rb ao cp LR D D' x w h hx e
    · exact do_crash W db mb L rb ao cp LR D D' x w h hx e
    · exact do_boot W db mb L rb ao cp LR D D' x w h hx e
  · exact do_none W db mb L rb ao cp LR D D' x w h hk

theorem cfC : Cf Ac.cells 6 := ⟨fun _ => rfl, fun x u hu => by
  unfold Ac.cells at hu
  simp only [List.mem_cons, List.not_mem_nil, or_false] at hu
  rcases hu with rfl | rfl | rfl | rfl | rfl | rfl <;> rfl⟩
def shortC (x : Ac) : Bool := decide (x.A.size ≤ 100) && (decide (x.B.size ≤ 100) && decide (x.keep.length ≤ 100))
def fewC (L : List Ac) : Bool := decide (L.length ≤ 60) && L.all shortC
set_option maxRecDepth 100000 in
set_option maxHeartbeats 2000000 in
theorem few18_any (ao : Option Addr) (c : Nat) (L : List Ac) (w : World) (hr : GAt Ac.cells 6 w ao L) (hl : L.length ≤ 9223372036854775807) (hsz : ∀ x ∈ L, x.A.size ≤ maxLen ∧ x.B.size ≤ maxLen) :
    Calls Try.prog 8 #[.slice ao L.length c] w fun e w' => e = .returned (.bool (fewC L)) ∧ w = w' := by
  by_cases h1 : 60 < L.length
  · have HF : Hid (fewC L = false) := Lib.hid (by unfold fewC; rw [decide_eq_false (by omega)]; rfl)
    have q1 : (60 : Int) < (L.length : Int) := by omega
    clear hsz hr
    go_enter Try.func8, Try.ntmps8
    go_wp2
    go_ret
    exact ⟨by rw [HF.out]; rfl, rfl⟩
  · have q1 : ¬ (60 : Int) < (L.length : Int) := by omega
    have HF : Hid (fewC L = L.all shortC) := Lib.hid (by unfold fewC; rw [decide_eq_true (by omega)]; rfl)
    have HR := Lib.hid hr
    have HSZ := Lib.hid hsz
    have HL60 := Lib.hid h1
    clear hr hsz
    go_enter Try.func8, Try.ntmps8
    go_wp2
    go_loopg [3] L.length (fun g s3 wr => ∃ i : Nat, i ≤ L.length ∧ g = L.length - i ∧ s3 = .int .i64 i ∧ (L.all shortC) = ((L.drop i).all shortC) ∧ w = wr)
    case atStart => exact ⟨0, Nat.zero_le _, rfl, rfl, rfl, rfl⟩
    case round =>
      obtain ⟨i, hil, rfl, rfl, hall, rfl⟩ := hrel
      have HALL := Lib.hid hall
      clear hall
      by_cases hd : i < L.length
      · obtain ⟨g, o, rfl, hrec⟩ := HR.out (by omega)
        have hi := List.getElem?_eq_getElem hd
        have hdrop : (L.drop i) = L[i] :: L.drop (i + 1) := List.drop_eq_getElem_cons hd
        have hmem : L[i] ∈ L := List.getElem_mem hd
        obtain ⟨r, hrr⟩ : ∃ r, r = L[i] := ⟨_, rfl⟩
        rw [← hrr] at hi hdrop hmem
        have h1' := hrec i r hi 1 (.string r.A) rfl
        have h2' := hrec i r hi 2 (.string r.B) rfl
        have h5' := hrec i r hi 5 (.slice r.ka r.keep.length r.kc) rfl
        have hsA := (HSZ.out r hmem).1
        have hsB := (HSZ.out r hmem).2
        unfold maxLen at hsA hsB
        obtain ⟨k, A, B, n, z, ka, kc, keep⟩ := r
        dsimp only at h1' h2' h5' hsA hsB
        obtain ⟨kn, hkn⟩ : ∃ kn, kn = keep.length := ⟨_, rfl⟩
        rw [← hkn] at h5'
        have hdi : (i : Int) < (L.length : Int) := by omega
        have hdi0 : (0 : Int) ≤ (i : Int) := by omega
        have HD := Lib.hid hd
        have HDR := Lib.hid hdrop
        have HKN := Lib.hid hkn
        have wi : IntKind.i64.wrap ((i : Int) + 1) = ((i + 1 : Nat) : Int) := by rw [IntWalk.i64_in _ ⟨by omega, by omega⟩]; omega
        have HBAD : Hid (shortC ⟨k, A, B, n, z, ka, kc, keep⟩ = false → fewC L = false) := Lib.hid (fun e => by rw [HF.out, HALL.out, HDR.out, List.all_cons, e]; rfl)
        have HGOOD : Hid (shortC ⟨k, A, B, n, z, ka, kc, keep⟩ = true → (L.all shortC) = ((L.drop (i + 1)).all shortC)) := Lib.hid (fun e => by rw [HALL.out, HDR.out, List.all_cons, e]; rfl)
        clear hrec hi hdrop hmem hrr hd hkn
        by_cases hA : 100 < A.size
        · have q2 : (100 : Int) < (A.size : Int) := by omega
          have q2' : decide (100 < A.size) = true := decide_eq_true hA
          have H3 := Lib.hid (HBAD.out (by unfold shortC; rw [decide_eq_false (by dsimp only; omega)]; rfl))
          go_wp2
          go_ret
          exact ⟨by rw [H3.out]; rfl, rfl⟩
        have q2 : ¬ (100 : Int) < (A.size : Int) := by omega
        have q2' : decide (100 < A.size) = false := decide_eq_false hA
        by_cases hB : 100 < B.size
        · have q3 : (100 : Int) < (B.size : Int) := by omega
          have q3' : decide (100 < B.size) = true := decide_eq_true hB
          have H3 := Lib.hid (HBAD.out (by unfold shortC; rw [decide_eq_false (show ¬ (B.size ≤ 100) by omega), Bool.false_and, Bool.and_false]))
          go_wp2
          go_ret
          exact ⟨by rw [H3.out]; rfl, rfl⟩
        have q3 : ¬ (100 : Int) < (B.size : Int) := by omega
        have q3' : decide (100 < B.size) = false := decide_eq_false hB
        by_cases hK : 100 < kn
        · have q4 : (100 : Int) < (kn : Int) := by omega
          have q4' : decide (100 < kn) = true := decide_eq_true hK
          have H3 := Lib.hid (HBAD.out (by unfold shortC; rw [decide_eq_false (show ¬ (keep.length ≤ 100) by have := HKN.out; omega), Bool.and_false, Bool.and_false]))
          go_wp2
          go_ret
          exact ⟨by rw [H3.out]; rfl, rfl⟩
        have q4 : ¬ (100 : Int) < (kn : Int) := by omega
        have q4' : decide (100 < kn) = false := decide_eq_false hK
        have H3 := Lib.hid (HGOOD.out (by unfold shortC; rw [decide_eq_true (show A.size ≤ 100 by omega), decide_eq_true (show B.size ≤ 100 by omega), decide_eq_true (show keep.length ≤ 100 by have := HKN.out; omega)]; rfl))
        go_wp2
        go_roundg (L.length - (i + 1))
        case measure => have := HD.out; omega
        case rel => exact ⟨i + 1, HD.out, rfl, rfl, H3.out, rfl⟩
      · obtain rfl : i = L.length := by omega
        have hdi : ¬ (L.length : Int) < (L.length : Int) := by omega
        have H3 : Hid (fewC L = true) := Lib.hid (by rw [HF.out, HALL.out, List.drop_length]; rfl)
        go_wp2
        go_ret
        exact ⟨by rw [H3.out]; rfl, rfl⟩
/-- What came in is well-formed. -/
structure Ac.In (W : World) (x : Ac) : Prop where
  A : x.A.size ≤ maxLen
  B : x.B.size ≤ maxLen
  kind : I64 x.kind
  N : I64 x.N
  code : I64 x.code
  keep : ∀ k ∈ x.keep, I64 k
  at_ : SlAt W (.slice x.ka x.keep.length x.kc) (vals x.keep)
theorem fewC_ok {W : World} {L : List Ac} (h : fewC L = true) (hi : ∀ x ∈ L, x.In W) : L.length ≤ 60 ∧ ∀ x ∈ L, x.Ok W := by
  unfold fewC at h
  rw [Bool.and_eq_true, decide_eq_true_eq, List.all_eq_true] at h
  refine ⟨h.1, fun x hx => ?_⟩
  have := h.2 x hx
  unfold shortC at this
  simp only [Bool.and_eq_true, decide_eq_true_eq] at this
  exact ⟨this.1, this.2.1, (hi x hx).N, (hi x hx).keep, (hi x hx).at_⟩
structure ActsIn (W : World) (ao : Option Addr) (L : List Ac) : Prop where
  at_ : GAt Ac.cells 6 W ao L
  ok : ∀ x ∈ L, x.In W
theorem trod_struct6 {P : Program} {H : Type} {enc : TypeId × Value → H} {w : World} {base : Nat} {spare : Nat → Bool} {held : Bool} {t : TypeId} {f0 f1 f2 f3 f4 f5 : Field} {fuel : Nat} {cs : List Value} {x : DataW H × List MemPlace} (ht : P.underlying t = some (.struct #[f0, f1, f2, f3, f4, f5])) (h : DataW.trod enc P w base spare held fuel t cs = some x) :
    ∃ y0 y1 y2 y3 y4 y5 n, DataW.trod enc P w base spare held n f0.type ((cs.drop f0.offset).take (P.cellsOf f0.type)) = some y0 ∧
      DataW.trod enc P w base spare held n f1.type ((cs.drop f1.offset).take (P.cellsOf f1.type)) = some y1 ∧ DataW.trod enc P w base spare held n f2.type ((cs.drop f2.offset).take (P.cellsOf f2.type)) = some y2 ∧
      DataW.trod enc P w base spare held n f3.type ((cs.drop f3.offset).take (P.cellsOf f3.type)) = some y3 ∧ DataW.trod enc P w base spare held n f4.type ((cs.drop f4.offset).take (P.cellsOf f4.type)) = some y4 ∧
      DataW.trod enc P w base spare held n f5.type ((cs.drop f5.offset).take (P.cellsOf f5.type)) = some y5 := by
  obtain ⟨xs, n, _, rfl, hl, hlen, hf⟩ := DataW.trod_struct ht h
  match xs, hlen with
  | [y0, y1, y2, y3, y4, y5], _ => exact ⟨y0, y1, y2, y3, y4, y5, n, by simpa using hf 0 f0 rfl, by simpa using hf 1 f1 rfl, by simpa using hf 2 f2 rfl, by simpa using hf 3 f3 rfl, by simpa using hf 4 f4 rfl, by simpa using hf 5 f5 rfl⟩
theorem act_cells {H : Type} {enc : TypeId × Value → H} {W : World} {sp n : Nat} {c0 c1 c2 c3 c4 c5 : Value} {y : DataW H × List MemPlace} (hf : DataW.trod enc Try.prog W sp (fun _ => true) true n 36 [c0, c1, c2, c3, c4, c5] = some y) :
    ∃ x : Ac, [c0, c1, c2, c3, c4, c5] = x.cells ∧ x.In W := by
  obtain ⟨y0, y1, y2, y3, y4, y5, m, h0, h1, h2, h3, h4, h5⟩ := trod_struct6 Try.underlying36 (cs := [c0, c1, c2, c3, c4, c5]) hf
  have k0 : Try.prog.cellsOf 3 = 1 := by kernel_rfl
  have k1 : Try.prog.cellsOf 9 = 1 := by kernel_rfl
  have k2 : Try.prog.cellsOf 33 = 1 := by kernel_rfl
  have k3 : Try.prog.cellsOf 34 = 1 := by kernel_rfl
  simp only [k0, k1, k2, k3, List.drop_zero, List.drop_succ_cons, List.take_succ_cons, List.take_zero] at h0 h1 h2 h3 h4 h5
  obtain ⟨a0, rfl, w0⟩ := trod_i64 Try.underlying3 h0
  obtain ⟨s1, e1, _, w1⟩ := DataW.trod_string Try.underlying9 h1
  obtain ⟨s2, e2, _, w2⟩ := DataW.trod_string Try.underlying9 h2
  obtain ⟨a3, rfl, w3⟩ := trod_i64 Try.underlying3 h3
  obtain ⟨a4, rfl, w4⟩ := trod_i64 Try.underlying33 h4
  obtain ⟨ka, kl, kc, zs, rfl, hr⟩ := trod_row Try.underlying34 Try.underlying3 (by kernel_rfl) h5
  injection e1 with e1 _
  injection e2 with e2 _
  subst e1 e2
  obtain ⟨l, hl, hwf, hsl⟩ := hr.slAtI
  subst hl
  exact ⟨⟨a0, s1, s2, a3, a4, ka, kc, l⟩, rfl, ⟨w1, w2, bd_i64 w0, bd_i64 w3, bd_i64 w4, fun k hk => bd_i64 (hwf k hk), hsl⟩⟩
set_option maxRecDepth 100000 in
theorem acts_of {H : Type} {enc : TypeId × Value → H} {W : World} {sp : Nat} {a : Option Addr} {len cap : Nat} {d : DataW H} {p : List MemPlace}
    (h : DataW.Trod enc Try.prog W sp (fun _ => true) true 23 (.slice a len cap) d p) : ∃ L : List Ac, L.length = len ∧ ActsIn W a L ∧ len ≤ cap ∧ len ≤ 9223372036854775807 := by
  obtain ⟨fuel, hf⟩ := h
  have k6 : Try.prog.cellsOf 36 = 6 := by kernel_rfl
  rcases open_slice Try.underlying23 hf with ⟨hcs, _⟩ | ⟨x, l, c, m, n, D, Pl, hcs, _, hl, hm, hmm, _, hi⟩
  · simp [Value.cells] at hcs
    obtain ⟨rfl, rfl, rfl⟩ := hcs
    exact ⟨[], rfl, ⟨fun h => absurd h (by simp), fun p hp => (by cases hp)⟩, Nat.le_refl _, by omega⟩
  · simp [Value.cells] at hcs
    obtain ⟨rfl, rfl, rfl⟩ := hcs
    unfold maxLen at hm
    rcases Nat.eq_zero_or_pos len with h0 | h0
    · subst h0
      exact ⟨[], rfl, ⟨fun h => absurd h (by simp), fun p hp => (by cases hp)⟩, by omega, by omega⟩
    · have key0 : ∀ i, i < len → ∃ q : Ac, (∀ j u, q.cells[j]? = some u → W.cell? (x.add (i * 6 + j)) = some u) ∧ q.In W := by
        intro i hi'
        obtain ⟨cs', hc, ht'⟩ := hi i (by simp at hmm; omega)
        rw [k6] at hc
        obtain ⟨hlen, hcl, hat⟩ := World.cells?_some hc
        match cs', hcl with
        | [c0, c1, c2, c3, c4, c5], _ =>
          obtain ⟨q, e, hq⟩ := act_cells ht'
          refine ⟨q, fun j u hj => ?_, hq⟩
          rw [← e] at hj
          have hj2 : j < 6 := by
            have := (List.getElem?_eq_some_iff.1 hj).1
            simpa using this
          have := hat j hj2
          rw [Go.Deep.add_add] at this
          rw [this]
          exact hj
      obtain ⟨g, o, spot⟩ := x
      have hspot : spot = Option.none := by
        obtain ⟨q, hq, _⟩ := key0 0 h0
        have c0 := hq 0 _ rfl
        simpa [Addr.add] using World.cell?_spot c0
      subst hspot
      have key : ∀ i, i < len → ∃ q : Ac, (∀ j u, q.cells[j]? = some u → W.cell? ⟨g, o + i * 6 + j, none⟩ = some u) ∧ q.In W := by
        intro i hi'
        obtain ⟨q, hq, h1⟩ := key0 i hi'
        refine ⟨q, fun j u hj => ?_, h1⟩
        have := hq j u hj
        rwa [Go.WideShapes.add_plain, ← Nat.add_assoc] at this
      obtain ⟨rs, hrs, hp⟩ := choose_list key
      refine ⟨rs, hrs, ⟨fun _ => ⟨g, o, rfl, fun i p hi => (hp i p hi).1⟩, fun p hpm => ?_⟩, hl, by omega⟩
      obtain ⟨i, hi, e⟩ := List.getElem_of_mem hpm
      exact (hp i p (by rw [List.getElem?_eq_getElem hi, e])).2
end Go.Proofs.Ytdhfalcjohfdkaa
