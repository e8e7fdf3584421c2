/- Layer 14: the document's Get, Del, Put. -/
import Derived.Test.YtoppcohgjmghdaaMI
import Derived.Test.YtoppcohgjmghdaaPS
namespace Go.Proofs.Ytoppcohgjmghdaa
open Go.RowKit
attribute [local go_sem ↓] Go.wp_at_zero Go.wp_at_succ

/-- The document's list of the things of a table. -/
def dtM (M : List (ByteArray × Th)) : List Dt := M.map fun q => (q.1, q.2.1)
theorem dtM_len (M : List (ByteArray × Th)) : (dtM M).length = M.length := List.length_map ..
theorem dtM_get (M : List (ByteArray × Th)) (s : ByteArray) : getM (dtM M) s = (getM M s).map (·.1) := getM_map (fun q : Th => q.1) M s
theorem dtM_del (M : List (ByteArray × Th)) (s : ByteArray) : delM (dtM M) s = dtM (delM M s) := delM_map (fun q : Th => q.1) M s
theorem dtM_put (M : List (ByteArray × Th)) (s : ByteArray) (v : Int) (p : Nat) : delM (dtM M) s ++ [(s, v)] = dtM (putT M s v p) := by
  rw [dtM_del]; unfold dtM putT; rw [List.map_append]; rfl
theorem findI_none {s : ByteArray} : ∀ {N : List Dt} (i : Nat), (∀ x ∈ N, x.1 ≠ s) → findI s N i = -1
  | [], _, _ => rfl
  | x :: r, i, h => by
    unfold findI
    rw [if_neg (h x (List.mem_cons_self ..))]
    exact findI_none (i + 1) (fun y hy => h y (List.mem_cons_of_mem _ hy))
theorem findI_some {s : ByteArray} {v : Int} : ∀ {N : List Dt} (i : Nat), getM N s = some v → ∃ j, findI s N i = ((i + j : Nat) : Int) ∧ N[j]? = some (s, v)
  | [], _, h => by cases h
  | x :: r, i, h => by
    unfold getM at h
    unfold findI
    by_cases e : x.1 = s
    · rw [if_pos e] at h
      injection h with h
      exact ⟨0, by rw [if_pos e]; rfl, by subst e h; rfl⟩
    · rw [if_neg e] at h
      obtain ⟨j, h1, h2⟩ := findI_some (i + 1) h
      exact ⟨j + 1, by rw [if_neg e, h1]; congr 1; omega, by rw [List.getElem?_cons_succ]; exact h2⟩
theorem Try.infoD : (Try.prog.info? 54).map (fun i => (i.zero, i.size, i.bytes)) = some (some (.agg #[.string ByteArray.empty, .int .i64 0]), 2, 24) := by kernel_rfl
theorem wpList_mineD {ops : Array Oper} {rest : List Oper} {o : Oper} {a : Act} {Q : Exit → Act → World → Prop} {w : World} (hgd : o.guard = none) (s x : Operand)
    (ho : o.op = .call { callee := .builtin .append, args := #[s, x], argTypes := #[27, 27] })
    (W : World) (v : Value) (L : List Dt) (hv : a.eval s = v) (hm : MineG cellsDt 2 54 W w v L)
    (y : Value) (M : List Dt) (m : Nat) (hmm : M.length = m) (hy : a.eval x = y) (hs : Src Try.prog 2 27 y m (flatG cellsDt M) w)
    (hl : L.length + m ≤ 1000000000)
    (h : ∀ v' w', MineG cellsDt 2 54 W w' v' (L ++ M) → Kept (fun k => v.ownBlock = some k) w w' → (v'.ownBlock = v.ownBlock ∨ v'.ownBlock = some w.heap.size) → wpList Try.prog ops Q rest (a.put o.dst v') w') : wpList Try.prog ops Q (o :: rest) a w := by
  obtain ⟨iI, hiI, hzI0, hzI1, hzI2⟩ := info_parts Try.infoD
  exact wpList_mineG hgd s x ho Try.underlying27 hiI hzI0 hzI1 hzI2 rfl W v L hv hm y M m hmm hy hs hl (by omega) h
set_option maxRecDepth 100000 in
set_option maxHeartbeats 2000000 in
theorem rGet_any (ao : Option Addr) (c : Nat) (N : List Dt) (s : ByteArray) (w : World) (hr : GAt cellsDt 2 w ao N) (hl : N.length ≤ 1000000000) :
    Calls Try.prog 9 #[.slice ao N.length c, .string s] w fun e w' => e = .returned (.tuple #[.int .i64 ((getM N s).getD 0), .bool (getM N s).isSome]) ∧ w = w' := by
  have HF := Lib.hid (rfind_any ao c N s w hr hl)
  obtain ⟨n, hn⟩ : ∃ n, n = N.length := ⟨_, rfl⟩
  rw [← hn] at HF ⊢
  cases hx : getM N s with
  | none =>
    rw [findI_none 0 (getM_none.1 hx)] at HF
    clear hr hn hx
    go_enter Try.func9, Try.ntmps9
    go_wp2_with fail
    refine HF.out.mono ?_
    rintro e w1 ⟨rfl, rfl⟩
    go_wp2
    go_ret2
    exact ⟨rfl, rfl⟩
  | some v =>
    obtain ⟨j, h1, h2⟩ := findI_some 0 hx
    have hj : j < n := by rw [hn]; exact (List.getElem?_eq_some_iff.1 h2).1
    obtain ⟨g, o, rfl, hrec⟩ := hr (by omega)
    have c1 := hrec j _ h2 1 (.int .i64 v) rfl
    rw [h1, Nat.zero_add] at HF
    have p0 : (0 : Int) ≤ (j : Int) := by omega
    have p1 : (j : Int) < (n : Int) := by omega
    clear hr hx h1 h2 hrec hn
    go_enter Try.func9, Try.ntmps9
    go_wp2_with fail
    refine HF.out.mono ?_
    rintro e w1 ⟨rfl, rfl⟩
    go_wp2
    go_ret2
    exact ⟨rfl, rfl⟩
theorem delM_succ {N : List Dt} {i : Nat} {f : Dt} (h : N[i]? = some f) (s : ByteArray) : delM (N.take (i + 1)) s = delM (N.take i) s ++ if f.1 = s then [] else [f] := by
  unfold delM
  rw [List.take_add_one, h, List.filter_append]
  congr 1
  simp only [Option.toList_some, List.filter_cons, List.filter_nil]
  by_cases e : f.1 = s <;> simp [e]
theorem delM_len (N : List Dt) (s : ByteArray) (i : Nat) : (delM (N.take i) s).length ≤ N.length := Nat.le_trans (List.length_filter_le _ _) (by rw [List.length_take]; omega)
set_option maxRecDepth 100000 in
set_option maxHeartbeats 4000000 in
theorem rDel_any (ao : Option Addr) (c : Nat) (N : List Dt) (s : ByteArray) (w : World) (hr : GAt cellsDt 2 w ao N) (hl : N.length ≤ 1000000) :
    Calls Try.prog 13 #[.slice ao N.length c, .string s] w fun e w' => ∃ v, e = .returned v ∧ MineG cellsDt 2 54 w w' v (delM N s) := by
  obtain ⟨n, hn⟩ : ∃ n, n = N.length := ⟨_, rfl⟩
  rw [← hn]
  have HR := Lib.hid hr
  have HB := Lib.hid (show n ≤ 1000000 ∧ n = N.length from ⟨by omega, hn⟩)
  clear hr hl hn
  go_enter Try.func13, Try.ntmps13
  go_wp2
  go_loopg [5, 6] n (fun g s5 s6 wr => ∃ i : Nat, i ≤ n ∧ g = n - i ∧ s6 = .int .i64 i ∧ MineG cellsDt 2 54 w wr s5 (delM (N.take i) s))
  case atStart => exact ⟨0, Nat.zero_le _, rfl, rfl, MineG.nil (Kept.refl _ _)⟩
  case round =>
    obtain ⟨i, hin, rfl, rfl, hm⟩ := hrel
    obtain ⟨pa, pc, hpv⟩ := hm.slice
    subst hpv
    have HM := Lib.hid hm
    by_cases hd : i < n
    · have hdi : (i : Int) < (n : Int) := by omega
      have hdi0 : (0 : Int) ≤ (i : Int) := by omega
      have HI := Lib.hid hd
      obtain ⟨f, hf⟩ : ∃ f, N[i]? = some f := ⟨_, List.getElem?_eq_getElem (by have := HB.out; omega)⟩
      obtain ⟨gg, oo, hga, hgc⟩ := (HR.out.kept hm.kept) (by have := HB.out; omega)
      subst hga
      have g0 := hgc i f hf 0 (.string f.1) rfl
      have g1 := hgc i f hf 1 (.int .i64 f.2) rfl
      rw [Nat.add_zero] at g0
      have wi : IntKind.i64.wrap ((i : Int) + 1) = ((i + 1 : Nat) : Int) := by have := HB.out; rw [IntWalk.i64_in _ ⟨by omega, by omega⟩]; omega
      have hsu := delM_succ hf s
      have HSR := Lib.hid (src_oneG (P := Try.prog) cfDt Try.underlying27 wr f)
      have HMA := Lib.hid (hm.on ((Kept.refl _ wr).alloc (.cells (cellsDt f).toArray 54)))
      obtain ⟨Pm, hPm⟩ : ∃ Pm, Pm = delM (N.take i) s := ⟨_, rfl⟩
      have hpl : Pm.length ≤ 1000000 := by have := delM_len N s i; have := HB.out; rw [hPm]; omega
      rw [← hPm] at hsu HM HMA ⊢
      have HPL := Lib.hid hpl
      obtain ⟨nm, fv⟩ := f
      dsimp only at g0 g1 hsu
      unfold cellsDt at HSR HMA
      dsimp only at HSR HMA
      by_cases he : nm = s
      · have q1 : (nm.toList == s.toList) = true := by rw [he]; exact beq_self_eq_true _
        rw [if_pos he, List.append_nil] at hsu
        have HRR := Lib.hid hsu
        clear hf hgc hd hin he hm hsu hPm hpl
        go_wp2
        go_roundg (n - (i + 1))
        case measure => have := HI.out; omega
        case rel => exact ⟨i + 1, HI.out, rfl, rfl, by rw [HRR.out]; exact HM.out⟩
      · have q1 : (nm.toList == s.toList) = false := toList_ne he
        rw [if_neg he] at hsu
        have HRR := Lib.hid hsu
        clear hf hgc hd hin he hm hsu hPm hpl
        go_wp2_with (at_builtin; refine wpList_mineD rfl (.tmp 20) (.tmp 25) rfl w _ Pm rfl HMA.out _ [(nm, fv)] 1 rfl rfl (by rw [flatG_one']; unfold cellsDt; exact HSR.out) (by have := HPL.out; omega) ?_)
        intro v' w8 hm8 _ _
        rw [← HRR.out] at hm8
        have HM8 := Lib.hid hm8
        clear hm8
        go_wp2
        go_roundg (n - (i + 1))
        case measure => have := HI.out; omega
        case rel => exact ⟨i + 1, HI.out, rfl, rfl, HM8.out⟩
    · have hdi : ¬ (i : Int) < (n : Int) := by omega
      have HE : Hid (N.take i = N) := Lib.hid (List.take_of_length_le (by have := HB.out; omega))
      clear hd hin hm
      go_wp2
      go_ret
      exact ⟨_, rfl, by have := HM.out; rw [HE.out] at this ⊢; exact this⟩
/-- May a thing come, as the document says? -/
def mayD (most : Int) (N : List Dt) (s : ByteArray) : Bool := (getM N s).isSome || decide ((N.length : Int) < most)
/-- What the document's Put answers. -/
def PutD (w : World) (ao : Option Addr) (c : Nat) (N : List Dt) (most : Int) (s : ByteArray) (x : Int) (e : Ending) (w' : World) : Prop :=
  (mayD most N s = false ∧ e = .returned (.tuple #[.slice ao N.length c, .bool false]) ∧ w = w') ∨
  (mayD most N s = true ∧ ∃ v, e = .returned (.tuple #[v, .bool true]) ∧ MineG cellsDt 2 54 w w' v (delM N s ++ [(s, x)]))
set_option maxRecDepth 100000 in
set_option maxHeartbeats 4000000 in
theorem rPut_any (ao : Option Addr) (c : Nat) (N : List Dt) (most : Int) (s : ByteArray) (x : Int) (w : World) (hr : GAt cellsDt 2 w ao N) (hl : N.length ≤ 1000000) :
    Calls Try.prog 10 #[.slice ao N.length c, .int .i64 most, .string s, .int .i64 x] w (PutD w ao c N most s x) := by
  have HF := Lib.hid (rfind_any ao c N s w hr (by omega))
  have HD := Lib.hid (rDel_any ao c N s w hr hl)
  obtain ⟨b, hb⟩ : ∃ b, b = mayD most N s := ⟨_, rfl⟩
  have hdl : (delM N s).length ≤ 1000000 := Nat.le_trans (List.length_filter_le _ _) hl
  have HDL := Lib.hid hdl
  have HN : Hid (b = false → PutD w ao c N most s x (.returned (.tuple #[.slice ao N.length c, .bool false])) w) := Lib.hid (fun e => .inl ⟨by rw [← hb]; exact e, rfl, rfl⟩)
  have HY : Hid (b = true → ∀ v w', MineG cellsDt 2 54 w w' v (delM N s ++ [(s, x)]) → PutD w ao c N most s x (.returned (.tuple #[v, .bool true])) w') := Lib.hid (fun e v w' h => .inr ⟨by rw [← hb]; exact e, v, rfl, h⟩)
  obtain ⟨n, hn⟩ : ∃ n, n = N.length := ⟨_, rfl⟩
  obtain ⟨z, hz⟩ : ∃ z, z = findI s N 0 := ⟨_, rfl⟩
  rw [← hz] at HF
  have hzn : (getM N s).isSome = decide (0 ≤ z) := by
    cases hx : getM N s with
    | none => rw [hz, findI_none 0 (getM_none.1 hx)]; rfl
    | some v => obtain ⟨j, h1, _⟩ := findI_some 0 hx; rw [hz, h1]; exact (decide_eq_true (by omega)).symm
  have hbn : b = (decide (0 ≤ z) || decide ((n : Int) < most)) := by rw [hb]; unfold mayD; rw [hzn, hn]
  rw [← hn] at HF HD HN ⊢
  obtain ⟨R, hR⟩ : ∃ R, R = PutD w ao c N most s x := ⟨_, rfl⟩
  rw [← hR] at HN HY ⊢
  clear hr hb hn hz hzn hdl hR
  by_cases h0 : z < 0
  · have q0 : decide (z < 0) = true := decide_eq_true h0
    have q0' : decide (0 ≤ z) = false := decide_eq_false (by omega)
    rw [q0', Bool.false_or] at hbn
    by_cases h1 : most ≤ (n : Int)
    · have HB : Hid (b = false) := Lib.hid (by rw [hbn]; exact decide_eq_false (by omega))
      clear hbn q0'
      go_enter Try.func10, Try.ntmps10
      go_wp2_with fail
      refine HF.out.mono ?_
      rintro e w1 ⟨rfl, rfl⟩
      go_wp2
      exact HN.out HB.out
    · have HB : Hid (b = true) := Lib.hid (by rw [hbn]; exact decide_eq_true (by omega))
      clear hbn q0'
      go_enter Try.func10, Try.ntmps10
      go_wp2_with fail
      refine HF.out.mono ?_
      rintro e w1 ⟨rfl, rfl⟩
      go_wp2_with fail
      refine HD.out.mono ?_
      rintro e w2 ⟨v, rfl, hm⟩
      obtain ⟨pa, pc, hpv⟩ := hm.slice
      obtain ⟨X, hX⟩ : ∃ X, X = delM N s := ⟨_, rfl⟩
      rw [← hX] at hm hpv HDL HY
      obtain ⟨xl, hxl⟩ : ∃ xl, xl = X.length := ⟨_, rfl⟩
      rw [← hxl] at hpv HDL
      subst hpv
      have HXL := Lib.hid hxl
      have HSR := Lib.hid (src_oneG (P := Try.prog) cfDt Try.underlying27 w2 ((s, x) : Dt))
      have HMA := Lib.hid (hm.on ((Kept.refl _ w2).alloc (.cells (cellsDt (s, x)).toArray 54)))
      unfold cellsDt at HSR HMA
      dsimp only at HSR HMA
      clear hm hX hxl
      go_wp2_with (at_builtin; refine wpList_mineD rfl (.tmp 23) (.tmp 27) rfl w _ X rfl HMA.out _ [(s, x)] 1 rfl rfl (by rw [flatG_one']; unfold cellsDt; exact HSR.out) (by have := HDL.out; have := HXL.out; omega) ?_)
      intro v' w8 hm8 _ _
      have HM8 := Lib.hid (HY.out HB.out v' w8 hm8)
      clear hm8
      go_wp2
      exact HM8.out
  · have q0 : decide (z < 0) = false := decide_eq_false h0
    have HB : Hid (b = true) := Lib.hid (by rw [hbn, decide_eq_true (by omega : 0 ≤ z)]; rfl)
    clear hbn
    go_enter Try.func10, Try.ntmps10
    go_wp2_with fail
    refine HF.out.mono ?_
    rintro e w1 ⟨rfl, rfl⟩
    go_wp2_with fail
    refine HD.out.mono ?_
    rintro e w2 ⟨v, rfl, hm⟩
    obtain ⟨pa, pc, hpv⟩ := hm.slice
    obtain ⟨X, hX⟩ : ∃ X, X = delM N s := ⟨_, rfl⟩
    rw [← hX] at hm hpv HDL HY
    obtain ⟨xl, hxl⟩ : ∃ xl, xl = X.length := ⟨_, rfl⟩
    rw [← hxl] at hpv HDL
    subst hpv
    have HXL := Lib.hid hxl
    have HSR := Lib.hid (src_oneG (P := Try.prog) cfDt Try.underlying27 w2 ((s, x) : Dt))
    have HMA := Lib.hid (hm.on ((Kept.refl _ w2).alloc (.cells (cellsDt (s, x)).toArray 54)))
    unfold cellsDt at HSR HMA
    dsimp only at HSR HMA
    clear hm hX hxl
    go_wp2_with (at_builtin; refine wpList_mineD rfl (.tmp 23) (.tmp 27) rfl w _ X rfl HMA.out _ [(s, x)] 1 rfl rfl (by rw [flatG_one']; unfold cellsDt; exact HSR.out) (by have := HDL.out; have := HXL.out; omega) ?_)
    intro v' w8 hm8 _ _
    have HM8 := Lib.hid (HY.out HB.out v' w8 hm8)
    clear hm8
    go_wp2
    exact HM8.out
end Go.Proofs.Ytoppcohgjmghdaa
