/- Layer 34: the walk of SymtabMost. -/
import Derived.Test.YtkidbbmdlmnokaaTN
import Derived.Test.YtkidbbmdlmnokaaTG
namespace Go.Proofs.Ytkidbbmdlmnokaa
open Go.RowKit
attribute [local go_sem ↓] Go.wp_at_zero Go.wp_at_succ

/-- The i-th of the texts. -/
def mostS (i : Nat) : ByteArray := strOfNums [((i / 256 : Nat) : Int), ((i % 256 : Nat) : Int)]
def mostL (n : Nat) : List ByteArray := (List.range n).map mostS
theorem mostS_list (i : Nat) : (mostS i).toList = [UInt8.ofNat (i / 256), UInt8.ofNat (i % 256)] := by
  rw [ByteArray.toList_eq]
  simp only [mostS, strOfNums, List.map_cons, List.map_nil, Int.toNat_natCast]
theorem mostS_size (i : Nat) : (mostS i).size = 2 := by rw [mostS, strOf_size]; rfl
theorem mostS_less {i j : Nat} (h : i < j) (hj : j < 65536) : Op.bytesLess (mostS i).toList (mostS j).toList = true := by
  rw [mostS_list, mostS_list]
  have h1 : i / 256 < 256 := by omega
  have h2 : j / 256 < 256 := by omega
  simp only [Op.bytesLess, UInt8.lt_iff_toNat_lt, UInt8.toNat_ofNat', Bool.or_eq_true, Bool.and_eq_true, decide_eq_true_eq, beq_iff_eq]
  rcases Nat.lt_or_ge (i / 256) (j / 256) with h3 | h3
  · left
    omega
  · right
    have h4 : i / 256 = j / 256 := by have := Nat.div_le_div_right (c := 256) (Nat.le_of_lt h); omega
    refine ⟨by rw [h4], ?_⟩
    left
    omega
theorem mostL_len (n : Nat) : (mostL n).length = n := by simp [mostL]
theorem mostL_get {n i : Nat} (h : i < (mostL n).length) : (mostL n)[i] = mostS i := by simp [mostL]
theorem mostL_succ (n : Nat) : mostL (n + 1) = mostL n ++ [mostS n] := by simp [mostL, List.range_succ]
theorem mostL_asc {n : Nat} (hn : n ≤ 65536) : Asc (mostL n) := by
  intro i j hi hj h
  rw [mostL_get, mostL_get]
  rw [mostL_len] at hj
  exact mostS_less h (by omega)
theorem mostL_pair {n : Nat} (hn : n ≤ 65536) : (mostL n).Pairwise (fun x y => Op.bytesLess x.toList y.toList = true) := by
  rw [List.pairwise_iff_getElem]
  intro i j hi hj h
  exact mostL_asc hn i j hi hj h
theorem leS_not {a s : ByteArray} (h : Op.bytesLess a.toList s.toList = true) : leS s a = false := by
  unfold leS
  rw [bytesLess_total, h]; rfl
theorem bld_conv : ∀ (L : List ByteArray) (i : Nat) (a : ByteArray), (∀ s ∈ L, s.size ≤ 400) → L.Pairwise (fun x y => Op.bytesLess x.toList y.toList = true) → (0 < i → ∀ s ∈ L, Op.bytesLess a.toList s.toList = true) → (bldL i a L).1 = 0
  | [], _, _, _, _, _ => rfl
  | s :: t, i, a, h1, h2, h3 => by
    rw [List.pairwise_cons] at h2
    have hs := h1 s (by simp)
    rw [bldL_step (by omega) (fun e => by rw [leS_not (h3 e.1 s (by simp))] at e; simp at e)]
    have := bld_conv t (i + 1) s (fun x hx => h1 x (by simp [hx])) h2.2 (fun _ => h2.1)
    unfold preB
    rw [if_neg (by simp [this])]
theorem most_build {n : Nat} (hn : n ≤ 4096) : (buildS (mostL n)).1 = 0 := by
  unfold buildS
  rw [if_neg (by rw [mostL_len]; omega)]
  have := bld_conv (mostL n) 0 ByteArray.empty (fun s hs => by
    obtain ⟨i, _, rfl⟩ := List.mem_map.1 hs
    rw [mostS_size]; omega) (mostL_pair (by omega)) (fun h => by omega)
  unfold preB
  rw [if_neg (by simp [this])]
theorem most_large {n : Nat} (hn : 4096 < n) : buildS (mostL n) = (4, []) := by
  unfold buildS
  rw [if_pos (by rw [mostL_len]; exact hn)]
theorem most_below {n z : Nat} (hn : n ≤ 65536) (h : 2048 < n) (hz : SearchTo (mostL n).length (geAt (mostL n) (mostS 2048)) z) : z = 2048 := by
  have hl := mostL_len n
  rcases Nat.lt_trichotomy z 2048 with h1 | h1 | h1
  · have := search_high (mostL_asc hn) hz (i := 2047) (by omega) (by omega)
    rw [mostL_get, mostS_less (by omega) (by omega)] at this
    cases this
  · exact h1
  · have := search_low (mostL_asc hn) hz (i := 2048) (by omega) h1
    rw [mostL_get, less_irrefl] at this
    cases this
theorem most_lit : (⟨#[8, 0]⟩ : ByteArray) = mostS 2048 := by decide +kernel
set_option maxHeartbeats 4000000 in
set_option maxRecDepth 100000 in
theorem symtabMost_walk (more : Int) (W : World) (hm : -9223372036854775808 ≤ more ∧ more ≤ 9223372036854775807) :
    Calls Try.prog 9 #[.int .i64 more] W fun e w' => e = .returned (.bool true) ∧ Kept (fun _ => False) W w' := by
  have HA := Lib.hid (awake34_any W)
  by_cases hlo : more < -1
  · clear hm
    go_enter Try.func9, Try.ntmps9
    go_wp2_with fail
    refine HA.out.mono ?_
    rintro e w1 ⟨rfl, k1⟩
    have HK1 := Lib.hid k1
    clear k1
    go_wp2
    go_ret
    exact ⟨rfl, HK1.out⟩
  by_cases hhi : 1 < more
  · clear hm
    go_enter Try.func9, Try.ntmps9
    go_wp2_with fail
    refine HA.out.mono ?_
    rintro e w1 ⟨rfl, k1⟩
    have HK1 := Lib.hid k1
    clear k1
    go_wp2
    go_ret
    exact ⟨rfl, HK1.out⟩
  obtain ⟨n, hn⟩ : ∃ n : Nat, 4096 + more = (n : Int) := ⟨(4096 + more).toNat, by omega⟩
  have wn : IntKind.i64.wrap (4096 + more) = (n : Int) := by rw [IntWalk.i64_in _ ⟨by omega, by omega⟩, hn]
  have HN := Lib.hid (show 4095 ≤ n ∧ n ≤ 4097 ∧ (0 < more → n = 4097) ∧ (¬ 0 < more → n ≤ 4096) by omega)
  clear hm hn
  go_enter Try.func9, Try.ntmps9
  go_wp2_with fail
  refine HA.out.mono ?_
  rintro e w1 ⟨rfl, k1⟩
  have HK1 := Lib.hid k1
  clear k1
  go_upto_region 7 with fail
  go_loopg [3, 4] n (fun G s3 s4 wr => ∃ i : Nat, i ≤ n ∧ G = n - i ∧ s4 = .int .i64 i ∧ Mine W wr 9 s3 (strs (mostL i)))
  case atStart => exact ⟨0, Nat.zero_le _, rfl, rfl, Mine.nil' _ HK1.out⟩
  case round =>
    obtain ⟨i, hin, rfl, rfl, hmi⟩ := hrel
    obtain ⟨a3, c3, rfl⟩ := hmi.slice
    rw [strs_length, mostL_len] at hmi ⊢
    have HMI := Lib.hid hmi
    clear hmi
    by_cases hd : i < n
    · have hdi : (i : Int) < (n : Int) := by omega
      have hi0 : (0 : Int) ≤ (i : Int) := by omega
      have HD := Lib.hid hd
      have wi : IntKind.i64.wrap ((i : Int) + 1) = ((i + 1 : Nat) : Int) := by rw [IntWalk.i64_in _ ⟨by omega, by have := HN.out; omega⟩]; omega
      have HSA : Hid (∀ w : World, (convert 27 9 (.slice (some ⟨w.heap.size, 0, none⟩) 2 2)).run Try.prog (w.alloc (.cells #[.int .u8 ((i / 256 : Nat) : Int), .int .u8 ((i % 256 : Nat) : Int)] 5)) = .ok (.string (mostS i)) (w.alloc (.cells #[.int .u8 ((i / 256 : Nat) : Int), .int .u8 ((i % 256 : Nat) : Int)] 5))) := Lib.hid (fun w => by
        have hsl : SlAt (w.alloc (.cells #[.int .u8 ((i / 256 : Nat) : Int), .int .u8 ((i % 256 : Nat) : Int)] 5)) (.slice (some ⟨w.heap.size, 0, none⟩) 2 2) (u8s [((i / 256 : Nat) : Int), ((i % 256 : Nat) : Int)]) := by
          refine ⟨some ⟨w.heap.size, 0, none⟩, 2, rfl, (fun h => by cases h), fun a ha => ?_⟩
          cases ha
          exact World.news_of_block (cs := #[.int .u8 ((i / 256 : Nat) : Int), .int .u8 ((i % 256 : Nat) : Int)]) (t := 5) (fr := (0, 0)) (heap_alloc_new w _)
        exact run_strI hsl 27 5 9 Try.underlying27 Try.underlying5 Try.underlying9)
      have hls := mostL_succ i
      have hx9 : i / 256 ≤ 255 := by have := HN.out; omega
      have hxe : (i : Int) / 256 = ((i / 256 : Nat) : Int) := by omega
      have hye : (i : Int) % 256 = ((i % 256 : Nat) : Int) := by omega
      obtain ⟨x, hx⟩ : ∃ x, x = i / 256 := ⟨_, rfl⟩
      obtain ⟨y, hy⟩ : ∃ y, y = i % 256 := ⟨_, rfl⟩
      rw [← hx, ← hy] at HSA
      rw [← hx] at hx9 hxe
      rw [← hy] at hye
      have wq : wrap64 ((i : Int) / 256) = (x : Int) := by rw [hxe]; unfold wrap64; omega
      have wq2 : (x : Int) % 256 = (x : Int) := by omega
      obtain ⟨s, hs⟩ : ∃ s, s = mostS i := ⟨_, rfl⟩
      rw [← hs] at HSA hls
      have hcv := HSA.out wr
      have HLS := Lib.hid hls
      have HM := Lib.hid ((HMI.out.alloc (.cells #[.int .u8 (x : Int), .int .u8 (y : Int)] 5)).alloc (.cells #[.string s] 9))
      have hsrc := src_oneT (wr.alloc (.cells #[.int .u8 (x : Int), .int .u8 (y : Int)] 5)) s
      rw [show (wr.alloc (.cells #[.int .u8 (x : Int), .int .u8 (y : Int)] 5)).heap.size = wr.heap.size + 1 from Array.size_push ..] at hsrc
      have HSrc := Lib.hid hsrc
      clear hd hin hx9 hxe hx hy hs hls hsrc
      go_upto_region 9 with fail
      go_wp2_with (at_builtin; refine wpList_mineT rfl (.tmp 23) (.tmp 32) rfl W _ (mostL i) rfl HM.out _ [s] rfl HSrc.out (by rw [strs_length, strs_length, mostL_len]; have := HN.out; have := HD.out; show i + 1 ≤ _; omega) ?_)
      intro v' w8 hm8 _ _
      rw [← HLS.out] at hm8
      have HM8 := Lib.hid hm8
      clear hm8 hcv wq wq2 hye
      go_wp2
      go_roundg (n - (i + 1))
      case measure => have := HD.out; omega
      case rel => exact ⟨i + 1, HD.out, rfl, rfl, HM8.out⟩
    · obtain rfl : i = n := by omega
      have hdi : ¬ (i : Int) < (i : Int) := by omega
      have HSM := Lib.hid (fun w (k : Kept (fun _ => False) wr w) => (HMI.out.on k).at_)
      have HB := Lib.hid (build_any a3 c3 (mostL i) wr (by rw [mostL_len]; exact HMI.out.at_) (by rw [mostL_len]; have := HN.out; omega) (fun s hs => by
        obtain ⟨j, _, rfl⟩ := List.mem_map.1 hs
        rw [mostS_size]; omega))
      rw [mostL_len] at HB
      have HK := Lib.hid HMI.out.kept
      clear hd hin
      go_wp2_with fail
      refine HB.out.mono ?_
      rintro e w2 ⟨v, rfl, ho, k2⟩
      have HK2 := Lib.hid (HK.out.trans k2)
      clear k2
      by_cases hpos : 0 < more
      · have hE := most_large (n := i) (by have := HN.out.2.2.1 hpos; omega)
        rw [hE] at ho ⊢
        obtain ⟨av, cv, rfl⟩ := ownsRow_slice ho
        clear ho hE HB
        go_wp2
        go_ret
        exact ⟨rfl, HK2.out⟩
      · have hle : i ≤ 4096 := by have := HN.out; omega
        have hE := most_build hle
        have HO := Lib.hid (openBuilt_any ho hE)
        have HZ := Lib.hid (fun z (hz : SearchTo (mostL i).length (geAt (mostL i) ⟨#[8, 0]⟩) z) => most_below (n := i) (z := z) (by omega) (by have := HN.out; omega) (by rw [← most_lit]; exact hz))
        rw [hE]
        clear ho hE hle HB
        go_wp2_with fail
        refine HO.out.mono ?_
        rintro e w3 ⟨tb, rfl, ht, k3⟩
        have HT := Lib.hid ht
        have HK3 := Lib.hid (HK2.out.trans k3)
        clear ht k3
        go_wp2_with fail
        refine (tlen_any tb (mostL i) w3 HT.out).mono ?_
        rintro e w4 ⟨rfl, rfl⟩
        rw [mostL_len]
        have qi : ((i : Int) == (i : Int)) = true := by simp
        go_wp2_with fail
        refine (tbelow_any tb (mostL i) ⟨#[8, 0]⟩ w3 HT.out (by rw [mostL_len]; have := HN.out; omega)).mono ?_
        rintro e w5 ⟨z, rfl, hz, k5⟩
        rw [HZ.out z hz]
        have HK5 := Lib.hid (HK3.out.trans k5)
        clear hz k5
        go_wp2
        go_ret
        exact ⟨rfl, HK5.out⟩
end Go.Proofs.Ytkidbbmdlmnokaa
