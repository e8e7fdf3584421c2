/- package wire: Var. -/
import Derived.Test.YtdgpeganmgcjiaaProg
import Derived.Test.YtdgpeganmgcjiaaG1
import Derived.Test.YtdgpeganmgcjiaaY1
namespace Go.Proofs.Ytdgpeganmgcjiaa
open Go.RowKit
attribute [local go_sem ↓] Go.wp_at_zero Go.wp_at_succ

theorem Try.infoU8 : (Try.prog.info? 5).map (fun i => (i.zero, i.size, i.bytes)) = some (some (.int .u8 0), 1, 1) := by kernel_rfl
def bys (l : List Nat) : List Value := l.map fun (n : Nat) => Value.int .u8 (n : Int)
@[simp] theorem bys_length (l : List Nat) : (bys l).length = l.length := by simp [bys]
theorem bys_get {l : List Nat} {j : Nat} (h : j < l.length) : (bys l)[j]? = some (.int .u8 ((l.getD j 0 : Nat) : Int)) := by
  simp [bys, List.getD_eq_getElem?_getD, List.getElem?_eq_getElem h]
theorem bys_one (l : List Nat) : ∀ u ∈ bys l, u.oneCell' = true := by
  intro u hu
  obtain ⟨n, _, rfl⟩ := List.mem_map.1 hu
  rfl
theorem bys_append (a b : List Nat) : bys (a ++ b) = bys a ++ bys b := by simp [bys]
theorem src_one8 (w : World) (u : Value) (hu : u.oneCell' = true) : Src Try.prog 1 25 (.slice (some ⟨w.heap.size, 0, none⟩) 1 1) ([u] : List Value).length [u] (w.alloc (.cells #[u] 5)) := src_one w Try.underlying25 u hu
theorem wpList_mine8 {ops : Array Oper} {rest : List Oper} {o : Oper} {a : Act} {Q : Exit → Act → World → Prop} {w : World} (hgd : o.guard = none) (s x : Operand)
    (ho : o.op = .call { callee := .builtin .append, args := #[s, x], argTypes := #[25, 25] })
    (W : World) (v : Value) (xs : List Value) (hv : a.eval s = v) (hm : Mine W w 5 v xs)
    (y : Value) (news : List Value) (hy : a.eval x = y) (hs : Src Try.prog 1 25 y news.length news w)
    (hl : xs.length + news.length ≤ 1000000000000)
    (h : ∀ v' w', Mine W w' 5 v' (xs ++ news) → wpList Try.prog ops Q rest (a.put o.dst v') w') : wpList Try.prog ops Q (o :: rest) a w := by
  obtain ⟨iI, hiI, hzI0, hzI1, hzI2⟩ := info_parts Try.infoU8
  exact wpList_mine hgd s x _ _ ho 5 iI (.int .u8 0) 1 Try.underlying25 hiI hzI0 hzI1 hzI2 rfl (by omega) W v xs hv hm y news hy hs hl h

theorem or128 : ∀ x, x < 256 → x ||| 128 = x % 128 + 128 := by decide +kernel
theorem byte_or (u : Nat) : bits .or .u8 (IntKind.u8.wrap (u : Int)) 128 = ((u % 128 + 128 : Nat) : Int) := by
  have h : IntKind.u8.wrap (u : Int) = ((u % 256 : Nat) : Int) := by rw [IntKind.wrap_u8]; omega
  have := u8_or_nat (u % 256) 128 (by omega) (by omega)
  rw [or128 (u % 256) (by omega)] at this
  rw [h]
  have e : u % 256 % 128 = u % 128 := by omega
  rw [e] at this
  exact this

set_option maxHeartbeats 2000000 in
set_option maxRecDepth 100000 in
theorem wvar_any (v : Nat) (hv : v < 18446744073709551616) (w : World) :
    Calls Try.prog 19 #[.int .u64 (v : Int)] w fun e w' => ∃ a c, e = .returned (.slice a (varW v).length c) ∧ Mine w w' 5 (.slice a (varW v).length c) (bys (varW v)) := by
  have hst : v < 2 * 128 ^ 9 := by rw [← p18]; exact hv
  have HST := Lib.hid hst
  have HVW : Hid (varW v = varF 9 v) := Lib.hid rfl
  have HXL : Hid ((varW v).length ≤ 10) := Lib.hid (varF_length 9 v).2
  obtain ⟨X, hX⟩ : ∃ X, X = varW v := ⟨_, rfl⟩
  rw [← hX] at HVW HXL ⊢
  clear hst hX hv
  go_enter Try.func19, Try.ntmps19
  go_wp2
  go_loopg [0, 3] 10 (fun g s0 s3 wr => ∃ (k u : Nat) (done : List Nat), k ≤ 9 ∧ g = k + 1 ∧ s0 = .int .u64 (u : Int) ∧ u < 2 * 128 ^ k ∧ done ++ varF k u = X ∧ done.length ≤ 10 ∧ Mine w wr 5 s3 (bys done))
  case atStart => exact ⟨9, v, [], by omega, rfl, rfl, HST.out, HVW.out.symm, by simp, Mine.nil _ _⟩
  case round =>
    obtain ⟨k, u, done, hk, rfl, rfl, hu, hx, hdl, hm⟩ := hrel
    obtain ⟨a3, c3, e3⟩ := hm.slice
    rw [bys_length] at e3
    subst e3
    have HM := Lib.hid hm
    have HX := Lib.hid hx
    have HDL := Lib.hid hdl
    have bor := byte_or u
    rw [IntKind.wrap_u8] at bor
    clear hm hx hdl
    obtain ⟨m, hmm⟩ : ∃ m, m = done.length := ⟨_, rfl⟩
    have HMM := Lib.hid hmm
    rw [← hmm] at HM ⊢
    clear hmm
    by_cases hd : 128 ≤ u
    · obtain ⟨k', rfl⟩ : ∃ k', k = k' + 1 := ⟨k - 1, by
        rcases Nat.eq_zero_or_pos k with h | h
        · subst h; simp at hu; omega
        · omega⟩
      have hg : (128 : Int) ≤ (u : Int) := by omega
      have hgb : decide (128 ≤ u) = true := decide_eq_true hd
      have HU := Lib.hid (show u / 128 < 2 * 128 ^ k' by rw [Nat.pow_succ] at hu; omega)
      have hv : varF (k' + 1) u = (u % 128 + 128) :: varF k' (u / 128) := by
        conv => lhs; unfold varF
        rw [if_neg (by omega)]
      have HV := Lib.hid hv
      obtain ⟨U, hU⟩ : ∃ U, U = u / 128 := ⟨_, rfl⟩
      have hsh : (u : Int) / 128 = (U : Int) := by omega
      obtain ⟨C, hC⟩ : ∃ C, C = u % 128 + 128 := ⟨_, rfl⟩
      rw [← hC] at bor HV
      rw [← hU] at HU HV
      have HK := Lib.hid hk
      have HC : Hid (bys [C] = [.int .u8 (C : Int)]) := Lib.hid rfl
      clear hv hU hC hd hu hk
      go_wp2_with (at_builtin; refine wpList_mine8 rfl (.tmp 6) (.tmp 10) rfl w _ _ rfl (HM.out.alloc _) _ _ rfl (src_one8 wr (.int .u8 (C : Int)) rfl) (by have := HDL.out; simp; omega) ?_; intro v6 w6 hm6; have HM6 := Lib.hid hm6; clear hm6)
      go_roundg (k' + 1)
      case measure => omega
      case rel => exact ⟨k', U, done ++ [C], by have := HK.out; omega, rfl, rfl, HU.out, by rw [← HX.out, HV.out]; simp, by have h1 := congrArg List.length HX.out; rw [HV.out, List.length_append, List.length_cons] at h1; have h2 := HXL.out; have h3 := varF_length k' U; rw [List.length_append, List.length_singleton]; omega, by rw [bys_append]; exact HM6.out⟩
    · have hg : ¬ (128 : Int) ≤ (u : Int) := by omega
      have hgb : decide (128 ≤ u) = false := decide_eq_false hd
      have bcv2 : (u : Int) % 256 = (u : Int) := by omega
      have hv : varF k u = [u] := by
        cases k with
        | zero => rfl
        | succ k => unfold varF; rw [if_pos (by omega)]
      have HV := Lib.hid hv
      clear hv hd hu hk bor
      go_wp2_with (at_builtin; refine wpList_mine8 rfl (.tmp 14) (.tmp 17) rfl w _ _ rfl (HM.out.alloc _) _ _ rfl (src_one8 wr (.int .u8 (u : Int)) rfl) (by have := HDL.out; simp; omega) ?_; intro v6 w6 hm6; obtain ⟨a6, c6, e6⟩ := hm6.slice; obtain ⟨n6, hn6⟩ : ∃ n, v6 = Value.slice a6 n c6 ∧ n = done.length + 1 := ⟨_, e6, by have := HMM.out; simp⟩; obtain ⟨e7, hn6⟩ := hn6; clear e6; subst e7; have HN6 := Lib.hid hn6; have HM6 := Lib.hid hm6; clear hm6 hn6)
      go_ret
      have e : X = done ++ [u] := by rw [← HX.out, HV.out]
      have hm6 := HM6.out
      rw [HN6.out] at hm6 ⊢
      rw [e, List.length_append, bys_append]
      exact ⟨a6, c6, rfl, hm6⟩
end Go.Proofs.Ytdgpeganmgcjiaa
