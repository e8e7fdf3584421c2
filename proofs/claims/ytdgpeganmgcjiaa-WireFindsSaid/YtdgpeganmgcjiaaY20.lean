/- Layer 30: the walk of WireFinds, of any input. -/
import Derived.Test.YtdgpeganmgcjiaaY17
import Derived.Test.YtdgpeganmgcjiaaY17b
namespace Go.Proofs.Ytdgpeganmgcjiaa
open Go.RowKit
attribute [local go_sem ↓] Go.wp_at_zero Go.wp_at_succ

set_option maxHeartbeats 1000000 in
theorem wireFinds_walk (ao : Option Addr) (c : Nat) (L : List PR) (num : Int) (zo : Option Addr) (zn zc : Nat) (zs : List Int) (bo : Option Addr) (bn cb : Nat) (bs : List Int) (W : World)
    (hr : FldsAt W ao L) (hl : L.length ≤ 9223372036854775807) (_ : -9223372036854775808 ≤ num ∧ num ≤ 9223372036854775807) (hz : IsRow .u64 W zo zn zc zs) (hb : IsRow .u8 W bo bn cb bs) :
    Calls Try.prog 5 #[.slice ao L.length c, .int .i64 num, .slice zo zn zc, .slice bo bn cb] W fun e w' => e = .returned (.bool true) ∧ Kept (fun _ => False) W w' := by
  obtain ⟨zl, hzl, hzb, hzs⟩ := hz.slAtN 18446744073709551616 wf_u64
  obtain ⟨bl, hbl, hbb, hbs⟩ := hb.slAtN 256 wf_u8
  have hcap := (isRow_cap hb).1
  subst hzl hbl
  by_cases h : fewF L = true ∧ zl.length ≤ 60 ∧ bl.length ≤ 300
  · obtain ⟨h1, h2, h3⟩ := h
    by_cases hf : L.filter (isNum num) = []
    · exact wireFinds_A ao c L num zo zc zl bo cb bl W hr hzs hzb ⟨hbs, hcap, hbb⟩ h1 h2 h3 hf
    · exact wireFinds_B ao c L num zo zc zl bo cb bl W hr hzs hzb ⟨hbs, hcap, hbb⟩ h1 h2 h3 hf
  · have HA := Lib.hid (awake30_any W)
    have HF := Lib.hid fun w' (k : Kept (fun _ => False) W w') => few30_any ao c L w' (hr.kept k) hl
    obtain ⟨n, hn⟩ : ∃ n, n = L.length := ⟨_, rfl⟩
    rw [← hn] at HF ⊢
    obtain ⟨F, hF⟩ : ∃ F, F = fewF L := ⟨_, rfl⟩
    rw [← hF] at HF h
    obtain ⟨m, hm⟩ : ∃ n, n = zl.length := ⟨_, rfl⟩
    obtain ⟨k, hk⟩ : ∃ n, n = bl.length := ⟨_, rfl⟩
    rw [← hm, ← hk] at h ⊢
    clear hr hl hz hb hzb hbb hzs hbs hcap hn hF hm hk
    rcases (show F = false ∨ (F = true ∧ ((60 : Int) < (m : Int) ∨ (¬ (60 : Int) < (m : Int) ∧ (300 : Int) < (k : Int)))) by
      cases F
      · exact .inl rfl
      · refine .inr ⟨rfl, ?_⟩
        by_cases h1 : m ≤ 60
        · refine .inr ⟨by omega, ?_⟩
          have : ¬ k ≤ 300 := fun h2 => h ⟨rfl, h1, h2⟩
          omega
        · exact .inl (by omega)) with rfl | ⟨rfl, q1 | ⟨q1, q2⟩⟩ <;> clear h <;>
    · go_enter Try.func5, Try.ntmps5
      go_wp2_with fail
      refine HA.out.mono ?_
      rintro e w1 ⟨rfl, K1⟩
      have HK1 := Lib.hid K1
      clear K1
      go_wp2_with fail
      refine (HF.out _ HK1.out).mono ?_
      rintro e w2 ⟨rfl, rfl⟩
      go_wp2
      go_ret
      exact ⟨rfl, HK1.out⟩
end Go.Proofs.Ytdgpeganmgcjiaa
