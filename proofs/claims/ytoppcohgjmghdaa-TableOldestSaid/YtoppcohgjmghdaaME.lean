/- Layer 14: Oldest. -/
import Derived.Test.YtoppcohgjmghdaaMC
import Derived.Test.YtoppcohgjmghdaaMR
namespace Go.Proofs.Ytoppcohgjmghdaa
open Go.RowKit
attribute [local go_sem ↓] Go.wp_at_zero Go.wp_at_succ

/-- What was seen so far: the oldest of the things that came. -/
def OldI (M : List (ByteArray × Th)) (p : Nat) (left : Lit → Bool) (o : ByteArray) (le : Nat) : Prop :=
  (∀ q ∈ M, left (keyL q.1) = false → le ≤ q.2.2) ∧ ((o = ByteArray.empty ∧ le = p) ∨ ∃ q ∈ M, q.1 = o ∧ le = q.2.2)
theorem OldI.start {M : List (ByteArray × Th)} {p : Nat} {left : Lit → Bool} (h : ∀ q ∈ M, left (keyL q.1) = true) : OldI M p left ByteArray.empty p :=
  ⟨fun q hq e => (by rw [h q hq] at e; cases e), .inl ⟨rfl, rfl⟩⟩
theorem keyL_inj {a b : ByteArray} (h : (keyL a).sameKey (keyL b) = true) : a = b := by
  have e := WideAt.sameKey_eq h
  unfold keyL at e
  injection e with e
  apply bl_inj
  unfold bl
  rw [ByteArray.toList_eq, ByteArray.toList_eq]
  show List.map _ a.data.toList = List.map _ b.data.toList
  rw [e]
theorem OldI.step {M : List (ByteArray × Th)} {p : Nat} {left : Lit → Bool} {o : ByteArray} {le : Nat} (h : OldI M p left o le) (hM : TOk M p) {q : ByteArray × Th} (hq : q ∈ M) :
    OldI M p (fun z => left z && !z.sameKey (keyL q.1)) (if q.2.2 < le then q.1 else o) (if q.2.2 < le then q.2.2 else le) := by
  have hdis : ∀ r ∈ M, r.1 = q.1 → r = q := fun r hr e => by
    have h1 := getM_of hM.pair (s := r.1) (v := r.2) hr
    have h2 := getM_of hM.pair (s := q.1) (v := q.2) hq
    rw [e, h2] at h1
    injection h1 with h1
    exact Prod.ext e h1.symm
  refine ⟨fun r hr e => ?_, ?_⟩
  · rw [Bool.and_eq_false_iff] at e
    rcases e with e | e
    · have := h.1 r hr e
      split <;> omega
    · have e2 : (keyL r.1).sameKey (keyL q.1) = true := by
        cases hx : (keyL r.1).sameKey (keyL q.1) with
        | true => rfl
        | false => rw [hx] at e; cases e
      rw [hdis r hr (keyL_inj e2)]
      split <;> omega
  · split
    · exact .inr ⟨q, hq, rfl, rfl⟩
    · exact h.2
theorem OldI.done {M : List (ByteArray × Th)} {p : Nat} {left : Lit → Bool} {o : ByteArray} {le : Nat} (h : OldI M p left o le) (hM : TOk M p) (hl : ∀ kl, left kl = false) : o = oldT M := by
  cases M with
  | nil =>
    rcases h.2 with ⟨e, _⟩ | ⟨q, hq, _⟩
    · exact e
    · cases hq
  | cons a r =>
    have h1 := h.1 a (List.mem_cons_self ..) (hl _)
    have h2 := hM.below a (List.mem_cons_self ..)
    rcases h.2 with ⟨_, e⟩ | ⟨q, hq, e1, e2⟩
    · omega
    · rcases List.mem_cons.1 hq with e | e
      · rw [← e1, e]; rfl
      · have := (List.pairwise_cons.1 hM.rise).1 q e
        omega
theorem RangesL.on {P : Program} {k : TypeId} {w w' : World} {b r : Nat} {L : List (ByteArray × Value)} {left : Lit → Bool} {cnt : Nat} (h : RangesL P k w b r L left cnt) (hk : Kept (fun _ => False) w w') : RangesL P k w' b r L left cnt := by
  obtain ⟨es, hp, es', clock, since, seen, c0, h1, h2, h3, h4, h5, h6⟩ := h
  exact ⟨es, hp, es', clock, since, seen, c0, hk.same h1 (fun x => x), h2, h3, h4, hk.same h5 (fun x => x), h6⟩
set_option maxRecDepth 100000 in
set_option maxHeartbeats 4000000 in
theorem tOldest_any (base tb mb : Nat) (L M : List (ByteArray × Th)) (most : Int) (p : Nat) (w : World) (h : TK base w tb mb L most M p) :
    Calls Try.prog 17 #[.pointer (some ⟨tb, 0, none⟩)] w fun e w' => e = .returned (.tuple #[.string (oldT M), .bool (decide (0 < M.length))]) ∧ Kept (fun _ => False) w w' := by
  have HD := Lib.hid (h.kept ((Kept.refl (fun _ => False) w).drew) (fun x => x) (fun x => x))
  have c1 := h.c.2.1
  have c2 := HD.out.c.2.2
  have HP := Lib.hid h.few
  have HH := Lib.hid h
  obtain ⟨n, hn⟩ : ∃ n, n = M.length := ⟨_, rfl⟩
  rw [← hn]
  obtain ⟨bn, hbn⟩ : ∃ b, b = decide (0 < n) := ⟨_, rfl⟩
  rw [← hbn]
  have HN := Lib.hid hn
  have HBN := Lib.hid hbn
  clear h hn hbn
  go_enter Try.func17, Try.ntmps17
  go_wp2
  go_region
  go_wp2_with (at_range; refine wpList_range_list rfl _ _ rfl 9 50 Try.underlying9 Try.underlying46 mb rfl HD.out.map ?_)
  intro w1 left cnt hr hall hk1 hs1
  have H1 := Lib.hid (And.intro hr (And.intro hall hk1))
  clear hr hall hk1 hs1
  obtain ⟨r, hrr⟩ : ∃ r, r = w.drew.heap.size := ⟨_, rfl⟩
  rw [show w.heap.size = r from hrr.symm]
  have H1r : Hid (RangesL Try.prog 9 w1 mb r (mapM valT L) left cnt) := Lib.hid (by rw [hrr]; exact H1.out.1)
  have HRR := Lib.hid hrr
  clear hrr
  go_wp2
  go_loopg [4, 5] cnt (fun g s4 s5 wr => ∃ lf, RangesL Try.prog 9 wr mb r (mapM valT L) lf g ∧ Kept (fun _ => False) w wr ∧ ∃ o le, s4 = .string o ∧ s5 = .int .i64 ((le : Nat) : Int) ∧ le ≤ 1000000000 ∧ OldI M p lf o le)
  case atStart => exact ⟨left, H1r.out, ((Kept.refl _ _).drew).trans H1.out.2.2, ByteArray.empty, p, rfl, rfl, HP.out.2, OldI.start (fun q hq => by
    have := HD.out.perm.symm.mem_iff.1 hq
    exact H1.out.2.1 q.1 (valT q.2) (List.mem_map.2 ⟨q, this, rfl⟩))⟩
  case round =>
    obtain ⟨lf, hr, hk, o, le, rfl, rfl, hle, hI⟩ := hrel
    have HI := Lib.hid (And.intro hI hk)
    go_wp2_with (at_next; refine wpList_next_list rfl _ rfl 9 Try.underlying9 mb r lf _ rfl hr ?done ?more)
    case done =>
      intro hl
      have hT := HH.out.kept hk (fun x => x) (fun x => x)
      have e2 := hT.c.2.2
      have hln := fun ty => hT.map.runLen Try.underlying46 ty
      rw [hT.len, ← HN.out] at hln
      have HO := Lib.hid (HI.out.1.done hT.ok hl)
      clear hT hl hr hk hI hle c1 c2
      by_cases h0 : 0 < n
      · have q0 : (0 : Int) < (n : Int) := by omega
        have q0' : decide (0 < n) = true := decide_eq_true h0
        go_wp2
        go_ret2
        rw [HBN.out, q0', ← HO.out]
        exact ⟨rfl, HI.out.2⟩
      · have q0 : ¬ (0 : Int) < (n : Int) := by omega
        have q0' : decide (0 < n) = false := decide_eq_false h0
        go_wp2
        go_ret2
        rw [HBN.out, q0', ← HO.out]
        exact ⟨rfl, HI.out.2⟩
    case more =>
      intro key v hp w2 cnt2 hlk hr2 hlt hk2 hsz hen
      obtain ⟨q, hq, hqe⟩ := List.mem_map.1 hp
      injection hqe with e1 e2
      subst e1 e2
      have hqM := HD.out.perm.mem_iff.1 hq
      have HST := Lib.hid (HI.out.1.step HD.out.ok hqM)
      have hqp := HD.out.ok.below q hqM
      have hq9 : q.2.2 ≤ 1000000000 := by have := HP.out.2; omega
      obtain ⟨qs, qv, qp⟩ := q
      unfold valT at hen ⊢
      dsimp only at hen HST hqp hq9 hr2 hlk ⊢
      have HK2 := Lib.hid (HI.out.2.newer hk2 (fun j e => by rw [e, HRR.out]; exact Nat.le_refl _))
      have HR2 := Lib.hid hr2
      have HLT := Lib.hid hlt
      clear hp hlk hr2 hk2 hsz hq hqM hI hr hk hqp c1 c2 hlt
      obtain ⟨q5, hq5⟩ : ∃ q, q = w2.heap.size := ⟨_, rfl⟩
      obtain ⟨w5, hw5⟩ : ∃ w5, w5 = w2.alloc (.cells #[.int .i64 qv, .int .i64 (qp : Int)] 50) := ⟨_, rfl⟩
      have k5 : Kept (fun _ => False) w2 w5 := by rw [hw5]; exact (Kept.refl _ _).alloc _
      have b5 : BoxAt w5 q5 50 #[.int .i64 qv, .int .i64 (qp : Int)] := by rw [hw5, hq5]; exact BoxAt.new w2 _ _
      have x1 : w5.cell? ⟨q5, 1, none⟩ = some (.int .i64 (qp : Int)) := b5.cell rfl
      have HW5 := Lib.hid (And.intro hw5 hq5)
      have HK5 := Lib.hid k5
      clear hw5 hq5 k5 b5
      by_cases hb : qp < le
      · have qb : (qp : Int) < (le : Int) := by omega
        have qb' : decide (qp < le) = true := decide_eq_true hb
        rw [if_pos hb, if_pos hb] at HST
        clear hb
        go_upto_region 5 with fail
        rw [← HW5.out.1, ← HW5.out.2]
        go_wp2
        go_region
        go_wp2
        go_roundg cnt2
        case measure => exact HLT.out
        case rel => exact ⟨_, HR2.out.on (HK5.out.trans ((Kept.refl _ _).drew)), (HK2.out.trans HK5.out).trans ((Kept.refl _ _).drew), _, _, rfl, rfl, hq9, HST.out⟩
      · have qb : ¬ (qp : Int) < (le : Int) := by omega
        have qb' : decide (qp < le) = false := decide_eq_false hb
        rw [if_neg hb, if_neg hb] at HST
        clear hb
        go_upto_region 5 with fail
        rw [← HW5.out.1, ← HW5.out.2]
        go_wp2
        go_roundg cnt2
        case measure => exact HLT.out
        case rel => exact ⟨_, HR2.out.on HK5.out, HK2.out.trans HK5.out, _, _, rfl, rfl, hle, HST.out⟩
end Go.Proofs.Ytoppcohgjmghdaa
