/- package glob, layer 32: Quote; the layer is awake. -/
import Derived.Test.YtjbjfdmdicfjfaaDC
import Derived.Test.YtjbjfdmdicfjfaaSI
import Derived.Test.YtjbjfdmdicfjfaaSN
namespace Go.Proofs.Ytjbjfdmdicfjfaa
open Go.RowKit
attribute [local go_sem ↓] Go.wp_at_zero Go.wp_at_succ

def specials : ByteArray := { data := #[42, 63, 91, 93, 92] }
/-- How a byte is quoted. -/
def quoteC (c : Nat) : List Nat := if 0 ≤ ixC specials c then [92, c] else [c]
def quoteL (l : List Nat) : List Nat := l.flatMap quoteC
theorem quoteL_snoc (s : ByteArray) (i : Nat) (hi : i < s.size) : quoteL ((bl s).take (i + 1)) = quoteL ((bl s).take i) ++ quoteC (chr s i) := by
  unfold quoteL
  rw [List.take_add_one, bl_get hi, List.flatMap_append]; simp
theorem quoteL_len (l : List Nat) : (quoteL l).length ≤ 2 * l.length := by
  induction l with
  | nil => simp [quoteL]
  | cons c l ih =>
    unfold quoteL at ih ⊢
    rw [List.flatMap_cons, List.length_append, List.length_cons]
    have : (quoteC c).length ≤ 2 := by unfold quoteC; split <;> simp
    omega
set_option maxHeartbeats 4000000 in
theorem quote_any (s : ByteArray) (w : World) (hs : s.size ≤ 1000000) :
    Calls Try.prog 14 #[.string s] w fun e w' => e = .returned (.string (strL (quoteL (bl s)))) ∧ Kept (fun _ => False) w w' := by
  obtain ⟨i0, hi0, hz0, hz1, hz2⟩ := info_parts Try.infoU8
  have HS := Lib.hid hs
  have HIX := Lib.hid (fun c w => sixByte_any specials c w)
  have HR := Lib.hid (fun i (hi : i < s.size) w => run_chr (P := Try.prog) Try.underlying9 s i hi w)
  have HL := Lib.hid (bl_length s)
  obtain ⟨n, hn⟩ : ∃ n, n = s.size := ⟨_, rfl⟩
  have HN := Lib.hid hn
  clear hs
  go_enter Try.func14, Try.ntmps14
  go_wp2
  rw [← hn]
  clear hn
  go_loopg [7, 3] n (fun G s7 s3 wr => ∃ i : Nat, i ≤ n ∧ G = n - i ∧ s7 = .int .i64 i ∧ Mine w wr 5 s3 (byV (quoteL ((bl s).take i))))
  case atStart => exact ⟨0, Nat.zero_le _, rfl, rfl, by rw [List.take_zero]; exact Mine.nil w _⟩
  case round =>
    obtain ⟨i, hin, rfl, rfl, hm⟩ := hrel
    by_cases hd : i < n
    · have hdi : (i : Int) < (n : Int) := by omega
      have his : i < s.size := by have := HN.out; omega
      have hix := HR.out i his
      have hq := quoteL_snoc s i his
      have hql := quoteL_len ((bl s).take i)
      have hq2 : quoteC (chr s i) = if 0 ≤ ixC specials (chr s i) then [92, chr s i] else [chr s i] := rfl
      rw [List.length_take] at hql
      have HIC := Lib.hid (HIX.out (chr s i))
      obtain ⟨c, hc⟩ : ∃ c, c = chr s i := ⟨_, rfl⟩
      rw [← hc] at hix HIC hq hq2
      obtain ⟨z, hz⟩ : ∃ z, z = ixC specials c := ⟨_, rfl⟩
      rw [← hz] at HIC hq2
      obtain ⟨Q, hQ⟩ : ∃ Q, Q = quoteL ((bl s).take i) := ⟨_, rfl⟩
      rw [← hQ] at hm hq hql
      have HM := Lib.hid hm
      have HQL := Lib.hid (show Q.length ≤ 2000000 by have := HS.out; omega)
      have HD := Lib.hid hd
      have wi : IntKind.i64.wrap ((i : Int) + 1) = ((i + 1 : Nat) : Int) := by rw [IntWalk.i64_in _ ⟨by omega, by have := HS.out; omega⟩]; omega
      by_cases h0 : 0 ≤ z
      · rw [if_pos h0] at hq2
        have HQ := Lib.hid (hq.trans (by rw [hq2]))
        clear hm hq hq2 hql hz hQ hc hd hin his
        go_wp2_with fail
        refine (HIC.out _).mono ?_
        rintro e w' ⟨rfl, rfl⟩
        go_wp2_with (at_builtin; refine wpList_mine rfl (.tmp 15) (.tmp 16) 56 56 rfl 5 i0 _ 1 Try.underlying56 hi0 hz0 hz1 hz2 rfl (by omega) w _ _ rfl (HM.out.alloc _) _ [.int .u8 92] rfl (src_one _ Try.underlying56 _ rfl) (by rw [byV_length]; have := HQL.out; simp; omega) ?_)
        intro v1 w1 hm1
        have HM1 := Lib.hid hm1
        clear hm1
        go_wp2_with (at_builtin; refine wpList_mine rfl (.tmp 18) (.tmp 22) 56 56 rfl 5 i0 _ 1 Try.underlying56 hi0 hz0 hz1 hz2 rfl (by omega) w _ _ rfl (HM1.out.alloc _) _ [.int .u8 (c : Int)] rfl (src_one _ Try.underlying56 _ rfl) (by have := HQL.out; simp; omega) ?_)
        intro v2 w2 hm2
        have HM2 := Lib.hid (show Mine w w2 5 v2 (byV (quoteL ((bl s).take (i + 1)))) by rw [HQ.out, byV_append]; simpa [byV] using hm2)
        clear hm2
        go_wp2
        go_roundg (n - (i + 1))
        case measure => have := HD.out; omega
        case rel => exact ⟨i + 1, HD.out, rfl, rfl, HM2.out⟩
      · rw [if_neg h0] at hq2
        have HQ := Lib.hid (hq.trans (by rw [hq2]))
        clear hm hq hq2 hql hz hQ hc hd hin his
        go_wp2_with fail
        refine (HIC.out _).mono ?_
        rintro e w' ⟨rfl, rfl⟩
        go_wp2_with (at_builtin; refine wpList_mine rfl (.tmp 18) (.tmp 22) 56 56 rfl 5 i0 _ 1 Try.underlying56 hi0 hz0 hz1 hz2 rfl (by omega) w _ _ rfl (HM.out.alloc _) _ [.int .u8 (c : Int)] rfl (src_one _ Try.underlying56 _ rfl) (by rw [byV_length]; have := HQL.out; simp; omega) ?_)
        intro v2 w2 hm2
        have HM2 := Lib.hid (show Mine w w2 5 v2 (byV (quoteL ((bl s).take (i + 1)))) by rw [HQ.out, byV_append]; simpa [byV] using hm2)
        clear hm2
        go_wp2
        go_roundg (n - (i + 1))
        case measure => have := HD.out; omega
        case rel => exact ⟨i + 1, HD.out, rfl, rfl, HM2.out⟩
    · obtain rfl : i = n := by omega
      have hm' : Mine w wr 5 u3 (byV (quoteL (bl s))) := by
        rw [List.take_of_length_le (by rw [HL.out]; have := HN.out; omega)] at hm; exact hm
      have HM := Lib.hid hm'
      have hcv := run_strL hm'.at_ 56 5 9 Try.underlying56 Try.underlying5 Try.underlying9
      clear hm hm'
      go_wp2
      go_ret
      exact ⟨rfl, HM.out.kept⟩
end Go.Proofs.Ytjbjfdmdicfjfaa
