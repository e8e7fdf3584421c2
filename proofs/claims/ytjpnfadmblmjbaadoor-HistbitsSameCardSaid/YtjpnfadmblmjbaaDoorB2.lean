/- package bitio: Put. -/
import Derived.Test.YtjpnfadmblmjbaaDoorB1
import Derived.Deep.DeepCutAuto
import Derived.Deep.LoopGhost
import Derived.Deep.RegionLaw
namespace Go.Proofs.YtjpnfadmblmjbaaDoor
open Go.RowKit
attribute [local go_sem ↓] Go.wp_at_zero Go.wp_at_succ

/-- The bits bs behind which the first bits of v's n bits stand, all but m. -/
def putN (bs : List Bool) (v n m : Nat) : List Bool := bs ++ bitsN (v / 2 ^ m) (n - m)
theorem putN_all (bs : List Bool) (v n : Nat) : putN bs v n n = bs := by simp [putN, bitsN]
theorem putN_zero (bs : List Bool) (v n : Nat) : putN bs v n 0 = bs ++ bitsN v n := by simp [putN]
theorem putN_step (bs : List Bool) (v n m k : Nat) (_hm : m ≤ n) (hk : k ≤ m) : putN bs v n (m - k) = putN bs v n m ++ bitsN (v / 2 ^ (m - k)) k := by
  unfold putN
  have e : n - (m - k) = (n - m) + k := by omega
  rw [e, bitsN_add, Nat.div_div_eq_div_mul, ← Nat.pow_add, List.append_assoc]
  have e2 : m - k + k = m := by omega
  rw [e2]
theorem putN_length (bs : List Bool) (v n m : Nat) : (putN bs v n m).length = bs.length + (n - m) := by simp [putN]

set_option maxHeartbeats 1000000 in
theorem bput_no (B p : Nat) (v : Value) (bs : List Bool) (x : Nat) (n : Int) (w : World) (_HW : BwAt w B p v bs) (hx : x < 18446744073709551616)
    (hn : n < 0 ∨ 64 < n ∨ (0 ≤ n ∧ n ≤ 64 ∧ 2 ^ n.toNat ≤ x)) :
    Calls Tryd.prog 48 #[.pointer (some ⟨p, 0, none⟩), .int .u64 x, .int .i64 n] w fun e w' => e = .returned (.bool false) ∧ w = w' := by
  rcases hn with h | h | ⟨h0, h1, h2⟩
  · go_enter Tryd.func48, Tryd.ntmps48
    go_wp2
    go_ret
    exact ⟨rfl, rfl⟩
  · have h' : ¬ n < 0 := by omega
    go_enter Tryd.func48, Tryd.ntmps48
    go_wp2
    go_ret
    exact ⟨rfl, rfl⟩
  · have h' : ¬ n < 0 := by omega
    have h'' : ¬ 64 < n := by omega
    have h3 : n < 64 := by
      rcases Int.lt_or_eq_of_le h1 with h | h
      · exact h
      · subst h
        have e : (2 : Nat) ^ (64 : Int).toNat = 18446744073709551616 := by decide
        omega
    have hq : ((x : Int) / 2 ^ n.toNat != 0) = true := by
      obtain ⟨k, rfl⟩ : ∃ k : Nat, n = k := ⟨n.toNat, by omega⟩
      simp only [Int.toNat_natCast] at h2 ⊢
      have h4 : 1 ≤ x / 2 ^ k := (Nat.le_div_iff_mul_le (Nat.two_pow_pos k)).2 (by omega)
      have h5 : ((x : Int) / 2 ^ k) = ((x / 2 ^ k : Nat) : Int) := by simp
      rw [h5, bne_iff_ne]; omega
    go_enter Tryd.func48, Tryd.ntmps48
    go_wp2
    go_ret
    exact ⟨rfl, rfl⟩

/-- Bits as bytes, with room for more in the last one. -/
def packX (bs : List Bool) : List Nat := (List.range (bs.length / 8 + 1)).map (byteAt bs)
theorem packX_length (bs : List Bool) : (packX bs).length = bs.length / 8 + 1 := by simp [packX]
theorem packX_part (bs : List Bool) (h : bs.length % 8 ≠ 0) : packX bs = packB bs := by
  unfold packX packB
  have e : bs.length / 8 + 1 = (bs.length + 7) / 8 := by omega
  rw [e]
theorem byteAt_out (bs : List Bool) (j : Nat) (h : bs.length ≤ 8 * j) : byteAt bs j = 0 := by
  apply Nat.eq_of_testBit_eq
  intro i
  rw [byteAt_testBit, List.getD_eq_getElem?_getD, List.getElem?_eq_none (by omega)]
  simp
theorem packX_full (bs : List Bool) (h : bs.length % 8 = 0) : packX bs = packB bs ++ [0] := by
  unfold packX packB
  have e : (bs.length + 7) / 8 = bs.length / 8 := by omega
  rw [e, List.range_succ, List.map_append, List.map_cons, List.map_nil, byteAt_out bs _ (by omega)]
theorem packX_getD (bs : List Bool) : (packX bs).getD (bs.length / 8) 0 = byteAt bs (bs.length / 8) := by
  simp [packX, List.getD_eq_getElem?_getD]
theorem packX_set (bs add : List Bool) (hk : add.length ≤ 8 - bs.length % 8) (h0 : 0 < add.length) :
    (packX bs).set (bs.length / 8) (byteAt bs (bs.length / 8) ||| numB add * 2 ^ (8 - bs.length % 8 - add.length)) = packB (bs ++ add) := by
  apply packB_eq
  · rw [List.length_set, packX_length, List.length_append]; omega
  · intro j hj
    rw [List.length_set, packX_length] at hj
    rw [byteAt_append bs add _ rfl hk, List.getElem?_set, packX_length]
    by_cases h : bs.length / 8 = j
    · rw [if_pos h, if_pos (by omega), if_pos h.symm, h]
    · rw [if_neg h, if_neg (fun e => h e.symm)]
      unfold packX
      simp [hj]

/-- Ahead of a part's putting down: the last byte has room. -/
def PutMid (wr wc : World) (B p : Nat) (v : Value) (cur : List Bool) : Prop :=
  ∃ g cp, wc.heap[p]? = some (.cells #[.slice (some ⟨g, 0, none⟩) (cur.length / 8 + 1) cp, .int .i64 cur.length] 80 (0, 0)) ∧
    wc.ownsRow B 5 1 (.slice (some ⟨g, 0, none⟩) (cur.length / 8 + 1) cp) (packX cur).length (bys (packX cur)) ∧ g ≠ p ∧ (some g = v.ownBlock ∨ wr.heap.size ≤ g) ∧ B ≤ p ∧
    Kept (fun k => k = p ∨ v.ownBlock = some k) wr wc

theorem BwAt.mid {w : World} {B p : Nat} {v : Value} {bs : List Bool} (h : BwAt w B p v bs) (hr : bs.length % 8 ≠ 0) : PutMid w w B p v bs := by
  have hL : (packB bs).length = bs.length / 8 + 1 := by rw [packB_length]; omega
  have ho := h.owns
  have hbox := h.box
  have hap := h.apart
  rcases ho.2 with ⟨_, e⟩ | ⟨g, cap, cur, rfl, _⟩
  · omega
  · rw [hL] at hbox ho
    refine ⟨g, cap, hbox, ?_, fun e => hap (by rw [e]; rfl), .inl rfl, h.base, Kept.refl _ _⟩
    rw [packX_part bs hr, hL]
    exact ho
theorem BwAt.mid_push {w wa w2 : World} {B p : Nat} {v v2 : Value} {bs : List Bool} {n : Nat} (h : BwAt w B p v bs) (hr : bs.length % 8 = 0) (hk : Kept (fun _ => False) w wa)
    (hown : w2.ownsRow B 5 1 v2 n (bys (packB bs) ++ [.int .u8 0])) (hn : n = bs.length / 8 + 1) (hg : wa.grownBy w2 v.ownBlock) (hat : v2.ownBlock = v.ownBlock ∨ v2.ownBlock = some wa.heap.size) :
    PutMid w (w2.setCell ⟨p, 0, none⟩ v2) B p v bs := by
  subst hn
  have hp := h.lt
  have hpa : p < wa.heap.size := Nat.lt_of_lt_of_le hp hk.size
  have k2 : Kept (fun k => k = p ∨ v.ownBlock = some k) w w2 := (hk.mono (fun _ _ x => x.elim)).grown hg (fun k e _ => .inr e)
  have hbox : w2.heap[p]? = some (.cells #[v, .int .i64 bs.length] 80 (0, 0)) := by
    rw [hg.block p hpa (fun e => h.apart e.symm)]
    exact hk.same h.box (fun x => x)
  have hne : v2.ownBlock ≠ some p := by
    rcases hat with e | e
    · rw [e]; exact h.apart
    · rw [e]; simp; omega
  have hown2 := ((Kept.refl (fun k => k = p) w2).setCell (p := ⟨p, 0, none⟩) (fun _ => rfl) v2).owns hown (fun k e x => hne (by rw [e, x]))
  have hlen : (bys (packB bs) ++ [Value.int .u8 0]) = bys (packX bs) := by rw [packX_full bs hr, bys_append]; rfl
  rcases hown.2 with ⟨_, e⟩ | ⟨g, cap, cur, rfl, _⟩
  · omega
  · refine ⟨g, cap, ?_, ?_, fun e => hne (by rw [e]; rfl), ?_, h.base, k2.setCell (fun _ => .inl rfl) _⟩
    · simp [World.setCell, Array.getElem?_modify, hbox]
    · rw [← hlen, packX_length]; exact hown2
    · rcases hat with e | e
      · exact .inl e
      · refine .inr ?_
        have := hk.size
        simp [Value.ownBlock] at e
        omega

/-- Behind a part's putting down. -/
theorem PutMid.done {wr wc w2 w3 : World} {B p g cp : Nat} {v : Value} {cur add : List Bool} {q : Nat}
    (hbox : wc.heap[p]? = some (.cells #[.slice (some ⟨g, 0, none⟩) (cur.length / 8 + 1) cp, .int .i64 cur.length] 80 (0, 0)))
    (hown : wc.ownsRow B 5 1 (.slice (some ⟨g, 0, none⟩) (cur.length / 8 + 1) cp) (packX cur).length (bys (packX cur))) (hgp : g ≠ p) (hat : some g = v.ownBlock ∨ wr.heap.size ≤ g) (hBp : B ≤ p)
    (hk : Kept (fun k => k = p ∨ v.ownBlock = some k) wr wc) (hadd : add.length ≤ 8 - cur.length % 8) (h0 : 0 < add.length)
    (h2 : w2 = ((wc.drewN q).setCell ⟨g, cur.length / 8, none⟩ (.int .u8 ((byteAt cur (cur.length / 8) ||| numB add * 2 ^ (8 - cur.length % 8 - add.length) : Nat) : Int))))
    (h3 : w3 = w2.setCell ⟨p, 1, none⟩ (.int .i64 ((cur.length + add.length : Nat) : Int))) : BwTo wr w3 B p v (cur ++ add) := by
  have hpx := packX_length cur
  rw [hpx] at hown
  have hset := packX_set cur add hadd h0
  have o1 : (wc.drewN q).ownsRow B 5 1 (.slice (some ⟨g, 0, none⟩) (cur.length / 8 + 1) cp) (cur.length / 8 + 1) (bys (packX cur)) := hown
  have o2 := owns_set o1 (cur.length / 8) (.int .u8 ((byteAt cur (cur.length / 8) ||| numB add * 2 ^ (8 - cur.length % 8 - add.length) : Nat) : Int))
  rw [← h2] at o2
  have o3 := ((Kept.refl (fun k => k = p) w2).setCell (p := ⟨p, 1, none⟩) (fun _ => rfl) (.int .i64 ((cur.length + add.length : Nat) : Int))).owns o2 (fun k e x => hgp (by simp [Value.ownBlock] at e; omega))
  rw [← h3] at o3
  have e1 : (bys (packX cur)).set (cur.length / 8) (.int .u8 ((byteAt cur (cur.length / 8) ||| numB add * 2 ^ (8 - cur.length % 8 - add.length) : Nat) : Int)) = bys (packB (cur ++ add)) := by
    rw [← hset]; unfold bys; rw [List.map_set]
  rw [e1] at o3
  have hlen : (packB (cur ++ add)).length = cur.length / 8 + 1 := by rw [← hset, List.length_set, hpx]
  refine ⟨_, ⟨hBp, ?_, by rw [hlen]; exact o3, fun e => hgp (by simpa [Value.ownBlock] using e)⟩, ?_, ?_⟩
  · rw [h3, h2]
    have hbp : ((wc.drewN q).setCell ⟨g, cur.length / 8, none⟩ (.int .u8 ((byteAt cur (cur.length / 8) ||| numB add * 2 ^ (8 - cur.length % 8 - add.length) : Nat) : Int))).heap[p]? = some (.cells #[.slice (some ⟨g, 0, none⟩) (cur.length / 8 + 1) cp, .int .i64 cur.length] 80 (0, 0)) := by
      rw [Below.heap_setCell _ _ _ _ (by simpa using fun e => hgp e.symm)]
      exact hbox
    simp [World.setCell, Array.getElem?_modify] at hbp ⊢
    simp [hbp]
  · rcases hat with e | e
    · exact .inl e
    · exact .inr ⟨g, rfl, e⟩
  · rw [h3, h2]
    refine ((hk.drewN q).setCell ?_ _).setCell (fun _ => .inl rfl) _
    intro hlt
    rcases hat with e | e
    · exact .inr e.symm
    · simp at hlt; omega

/-- A part of a number, as the program takes it. -/
theorem part_and (x d k : Nat) (hx : x < 18446744073709551616) (hk : k ≤ 8) : bits .and .u64 ((x : Int) / 2 ^ d) (IntKind.u64.wrap (IntKind.u64.wrap (2 ^ k) - 1)) % 256 = ((x / 2 ^ d % 2 ^ k : Nat) : Int) := by
  have h1 : (2 : Int) ^ k = ((2 ^ k : Nat) : Int) := by simp
  have h2 : 2 ^ k ≤ 2 ^ 8 := Nat.pow_le_pow_right (by omega) hk
  have h3 : 0 < 2 ^ k := Nat.two_pow_pos k
  have h4 : IntKind.u64.wrap (IntKind.u64.wrap (2 ^ k) - 1) = ((2 ^ k - 1 : Nat) : Int) := by rw [h1, IntKind.wrap_u64, IntKind.wrap_u64]; omega
  have h5 : (x : Int) / 2 ^ d = ((x / 2 ^ d : Nat) : Int) := by simp
  have h6 : x / 2 ^ d ≤ x := Nat.div_le_self _ _
  rw [h4, h5]
  generalize x / 2 ^ d = X at *
  rw [u64_and _ _ (by omega) (by omega) (by omega) (by omega)]
  simp only [Int.toNat_natCast]
  rw [Nat.and_two_pow_sub_one_eq_mod]
  have h7 : X % 2 ^ k < 2 ^ k := Nat.mod_lt _ h3
  omega
end Go.Proofs.YtjpnfadmblmjbaaDoor
