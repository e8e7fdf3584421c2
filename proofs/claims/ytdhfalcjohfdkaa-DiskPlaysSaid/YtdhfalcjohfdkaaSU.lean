/- Layer 18: plainly, a file that nothing is done with; the document's New of no files. -/
import Derived.Test.YtdhfalcjohfdkaaSO
namespace Go.Proofs.Ytdhfalcjohfdkaa
open Go.RowKit
attribute [local go_sem ↓] Go.wp_at_zero Go.wp_at_succ

theorem behindD_get {D : DA} {f : DA → DA × Int} {s : ByteArray} (h : ∀ E : DA, getM (f E).1.L s = getM E.L s) : getM (behindD D f).1.L s = getM D.L s := by
  unfold behindD
  split
  · rw [h, (beginD_L D).1]
  · rw [(beginD_L D).1]
theorem withF_get {A s : ByteArray} {g : PF → DA → DA × Int} (h : ∀ f E, getM (g f E).1.L s = getM E.L s) (E : DA) : getM (withF A g E).1.L s = getM E.L s := by
  unfold withF
  split
  · rfl
  · exact h _ _
/-- What is done with other files leaves a file as it is. -/
theorem act_other {D : DA} {x : Ac} {s : ByteArray} (hA : x.A ≠ s) (hB : x.B ≠ s) (h8 : x.kind ≠ 8) : getM (actD D x).1.L s = getM D.L s := by
  have hp : ∀ (M : List (ByteArray × PF)) (f : PF), getM (putS M x.A f) s = getM M s := fun M f => by rw [getM_put, if_neg hA]
  have hq : ∀ (M : List (ByteArray × PF)) (f : PF), getM (putS M x.B f) s = getM M s := fun M f => by rw [getM_put, if_neg hB]
  have hd : ∀ M : List (ByteArray × PF), getM (delM M x.A) s = getM M s := fun M => by rw [getM_del, if_neg hA]
  unfold actD
  split
  · unfold createD
    refine behindD_get (fun E => ?_)
    unfold createF
    split
    · rfl
    · split
      · rfl
      · split
        · rfl
        · exact hp _ _
  split
  · unfold appendD
    refine behindD_get (withF_get (fun f E => ?_))
    split
    · rfl
    · exact hp _ _
  split
  · unfold syncD
    exact behindD_get (withF_get (fun f E => hp _ _))
  split
  · unfold cutD
    refine behindD_get (withF_get (fun f E => ?_))
    split
    · rfl
    · exact hp _ _
  split
  · unfold renameD
    refine behindD_get (fun E => ?_)
    split
    · rfl
    · refine withF_get (fun f E => ?_) E
      show getM (putS (delM E.L x.A) x.B f) s = _
      rw [hq, hd]
  split
  · unfold removeD
    exact behindD_get (withF_get (fun f E => hd _))
  split
  · rfl
  split
  · rfl
  first
  | rfl
  | (rw [if_neg h8])
theorem getM_bootL : ∀ (keep : List Int) (M : List (ByteArray × PF)) (s : ByteArray), ∃ k, getM (bootL keep M) s = (getM M s).map (bootF k)
  | _, [], s => ⟨0, rfl⟩
  | keep, p :: r, s => by
    obtain ⟨k, hk⟩ := getM_bootL keep.tail r s
    by_cases e : p.1 = s
    · refine ⟨keep.headD 0, ?_⟩
      show (if p.1 = s then some (bootF (keep.headD 0) p.2) else getM (bootL keep.tail r) s) = (if p.1 = s then some p.2 else getM r s).map (bootF (keep.headD 0))
      rw [if_pos e, if_pos e]; rfl
    · refine ⟨k, ?_⟩
      show (if p.1 = s then some (bootF (keep.headD 0) p.2) else getM (bootL keep.tail r) s) = (if p.1 = s then some p.2 else getM r s).map (bootF k)
      rw [if_neg e, if_neg e, hk]
def nmS : ByteArray := { data := #[115] }
def nmNone : ByteArray := { data := #[110, 111, 110, 101] }
/-- The power goes with the call behind. -/
theorem crash_now (D : DA) : ∃ E : DA, syncD (crashD D 0) nmNone = (E, 13) ∧ E.down = true ∧ E.L = D.L := by
  have h : ∃ E : DA, beginD (crashD D 0) = (E, 13) ∧ E.down = true ∧ E.L = D.L := by
    unfold beginD
    by_cases hd : (crashD D 0).down = true
    · rw [if_pos hd]; exact ⟨_, rfl, hd, rfl⟩
    · rw [if_neg hd, if_pos (show (crashD D 0).crashIn = 0 from (by decide : max (-1 : Int) 0 = 0))]
      exact ⟨_, rfl, rfl, rfl⟩
  obtain ⟨E, h1, h2, h3⟩ := h
  refine ⟨E, ?_, h2, h3⟩
  unfold syncD behindD
  rw [h1, if_neg (by simp)]
/-- What a boot leaves of a file whose first bytes are sure. -/
theorem boot_sure {E : DA} {b m : List Nat} (hd : E.down = true) (hg : getM E.L nmS = some ⟨b ++ m, b.length⟩) (keep : List Int) : ∃ G : DA, ∃ k : Nat, bootD E keep = (G, 0) ∧ b.length ≤ k ∧ k ≤ b.length + m.length ∧
    readA G nmS = ((b ++ m).take k, 0) ∧ sizeA G nmS = ((k : Int), (k : Int), 0) := by
  obtain ⟨j, hj⟩ := getM_bootL keep E.L nmS
  rw [hg] at hj
  have hl : leftF j ⟨b ++ m, b.length⟩ = b.length + min j.toNat m.length := by
    show b.length + min j.toNat ((b ++ m).length - b.length) = _
    rw [List.length_append, Nat.add_sub_cancel_left]
  refine ⟨{ E with L := bootL keep E.L, down := false, failIn := -1, crashIn := -1 }, b.length + min j.toNat m.length, ?_, by omega, by omega, ?_, ?_⟩
  · unfold bootD; rw [if_pos hd]
  · unfold readA
    rw [if_neg (by simp), show (({ E with L := bootL keep E.L, down := false, failIn := -1, crashIn := -1 } : DA)).L = bootL keep E.L from rfl, hj]
    show ((b ++ m).take (leftF j ⟨b ++ m, b.length⟩), (0 : Int)) = _
    rw [hl]
  · unfold sizeA
    rw [if_neg (by simp), show (({ E with L := bootL keep E.L, down := false, failIn := -1, crashIn := -1 } : DA)).L = bootL keep E.L from rfl, hj]
    show ((((b ++ m).take (leftF j ⟨b ++ m, b.length⟩)).length : Int), ((leftF j ⟨b ++ m, b.length⟩ : Nat) : Int), (0 : Int)) = _
    rw [hl, List.length_take, List.length_append, Nat.min_eq_left (by omega)]
/-- How the file comes to be. -/
theorem sure_begin (b m : List Nat) (hb : b.length ≤ 1000) (hm : m.length ≤ 1000) : ∃ D1 D2 D3 D4 : DA, newD [] 1048576 = some (freshD 1048576 []) ∧ createD (freshD 1048576 []) nmS = (D1, 0) ∧ appendD D1 nmS b = (D2, 0) ∧ syncD D2 nmS = (D3, 0) ∧ appendD D3 nmS m = (D4, 0) ∧ getM D4.L nmS = some ⟨b ++ m, b.length⟩ := by
  have hbeg : ∀ (M : List (ByteArray × PF)) (k : Int), beginD ⟨M, 1048576, false, k, -1, 0, -1⟩ = (⟨M, 1048576, false, wrap64 (k + 1), -1, 0, -1⟩, 0) := fun M k => by
    unfold beginD countedD
    simp only [Bool.false_eq_true, if_false]
    rw [if_neg (by decide)]
    rfl
  have hbh : ∀ (M : List (ByteArray × PF)) (k : Int) (f : DA → DA × Int), behindD ⟨M, 1048576, false, k, -1, 0, -1⟩ f = f ⟨M, 1048576, false, wrap64 (k + 1), -1, 0, -1⟩ := fun M k f => by
    unfold behindD
    rw [hbeg, if_pos rfl]
  have hput : ∀ f g : PF, putS [(nmS, f)] nmS g = [(nmS, g)] := fun f g => by
    unfold putS
    rw [List.filter_cons, List.filter_cons, ltN_irrefl]
    rfl
  have hget : ∀ f : PF, getM [(nmS, f)] nmS = some f := fun f => by
    show (if nmS = nmS then some f else none) = _
    rw [if_pos rfl]
  refine ⟨⟨[(nmS, ⟨[], 0⟩)], 1048576, false, wrap64 (0 + 1), -1, 0, -1⟩, ⟨[(nmS, ⟨b, 0⟩)], 1048576, false, wrap64 (wrap64 (0 + 1) + 1), -1, 0, -1⟩, ⟨[(nmS, ⟨b, b.length⟩)], 1048576, false, wrap64 (wrap64 (wrap64 (0 + 1) + 1) + 1), -1, 0, -1⟩,
    ⟨[(nmS, ⟨b ++ m, b.length⟩)], 1048576, false, wrap64 (wrap64 (wrap64 (wrap64 (0 + 1) + 1) + 1) + 1), -1, 0, -1⟩, rfl, ?_, ?_, ?_, ?_, hget _⟩
  · unfold createD freshD
    rw [hbh]
    unfold createF
    rw [if_neg (by decide +kernel), if_neg (by simp [getM]), if_neg (by simp)]
    rfl
  · unfold appendD
    rw [hbh]
    unfold withF
    simp only [hget]
    rw [if_neg (by simp [usedL]; omega), hput]
    rfl
  · unfold syncD
    rw [hbh]
    unfold withF
    simp only [hget]
    rw [hput]
  · unfold appendD
    rw [hbh]
    unfold withF
    simp only [hget]
    rw [if_neg (by simp [usedL]; omega), hput]
theorem DK.down {base base' : Nat} {w : World} {db mb : Nat} {L : List (ByteArray × Fi)} {D : DA} (h : DK base w db mb L D) (hb : base' ≤ base) : DK base' w db mb L D :=
  ⟨h.box, h.map, h.perm, fun p hp => by
    rcases h.data p hp with e | ⟨g, cur, e1, e2, e3⟩
    · exact .inl e
    · exact .inr ⟨g, cur, e1, Nat.le_trans hb e2, e3⟩, h.sep, ⟨Nat.le_trans hb h.base.1, Nat.le_trans hb h.base.2⟩, h.ok⟩
theorem strL_take (l : List Nat) (k : Nat) : (strL l).extract 0 k = strL (l.take k) := by
  apply bl_inj
  have h : ∀ l : List Nat, bl (strL l) = l.map fun n => (UInt8.ofNat n).toNat := fun l => by unfold bl; rw [strL_list, List.map_map]; rfl
  rw [bl_extract, h, h, List.map_take, List.drop_zero]
set_option maxRecDepth 100000 in
set_option maxHeartbeats 2000000 in
theorem refNewNil_any (cap : Int) (hc : 1 ≤ cap ∧ cap ≤ 4194304) (w : World) :
    Calls Try.prog 10 #[.slice none 0 0, .int .i64 cap] w fun e w' => ∃ rb, e = .returned (.pointer (some ⟨rb, 0, none⟩)) ∧ RK w' rb none 0 [] (freshD cap []) ∧ Kept (fun _ => False) w w' ∧ rb = w.heap.size := by
  have q1 : decide (cap < 1) = false := decide_eq_false (by omega)
  have q2 : decide (4194304 < cap) = false := decide_eq_false (by omega)
  have HR := Lib.hid (show RK (w.alloc (.cells #[.slice none 0 0, .int .i64 cap, .bool false, .int .i64 0, .int .i64 (-1), .int .i64 (-1), .int .i64 0] 64)) w.heap.size none 0 [] (freshD cap []) from
    ⟨BoxAt.new w _ _, fun h => absurd h (by simp), Nat.le_refl _, rfl, (by intro f hf; cases hf), fresh_ok hc⟩)
  clear hc
  go_enter Try.func10, Try.ntmps10
  go_wp2
  go_loopg [6] 0 (fun g s6 wr => g = 0 ∧ s6 = .int .i64 0 ∧ w.alloc (.cells #[.slice none 0 0, .int .i64 cap, .bool false, .int .i64 0, .int .i64 (-1), .int .i64 (-1), .int .i64 0] 64) = wr)
  case atStart => exact ⟨rfl, rfl, rfl⟩
  case round =>
    obtain ⟨rfl, rfl, rfl⟩ := hrel
    go_wp2
    go_ret
    exact ⟨_, rfl, HR.out, (Kept.refl _ _).alloc _, rfl⟩
end Go.Proofs.Ytdhfalcjohfdkaa
