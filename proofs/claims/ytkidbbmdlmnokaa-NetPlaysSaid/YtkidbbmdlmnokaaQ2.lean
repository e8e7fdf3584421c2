/- Layer 2: words as they came in; 'some'; the document's Text. -/
import Derived.Test.YtkidbbmdlmnokaaQ1
import Derived.Test.YtkidbbmdlmnokaaR1
import Derived.Lib.ConvBytes
namespace Go.Proofs.Ytkidbbmdlmnokaa
open Go.ChangeShapes Go.WideShapes Go.ChangeAt Go.RowKit Go.Deep
attribute [local go_sem ↓] Go.wp_at_zero Go.wp_at_succ

theorem wtrod_i64 {H : Type} {enc : TypeId × Value → H} {P : Program} {T : TypeId} {k : IntKind} {W : World} {sp n : Nat} {v : Value} {y : DataW H × List MemPlace}
    (hT : P.underlying T = some (.int k)) (h : DataW.trod enc P W sp (fun _ => true) true n T [v] = some y) : ∃ x, v = .int k x ∧ (Lit.int k x).wf = true := by
  obtain ⟨x, e, _, hw⟩ := DataW.trod_int hT h
  injection e with e _
  exact ⟨x, e, hw⟩
theorem wtrod_str {H : Type} {enc : TypeId × Value → H} {P : Program} {T : TypeId} {W : World} {sp n : Nat} {v : Value} {y : DataW H × List MemPlace}
    (hT : P.underlying T = some .string) (h : DataW.trod enc P W sp (fun _ => true) true n T [v] = some y) : ∃ s, v = .string s := by
  obtain ⟨s, e, _, hw⟩ := DataW.trod_string hT h
  injection e with e _
  exact ⟨s, e⟩

/-- A word. -/
structure WRec where
  k : Int
  n : Int
  v : Int
  s : ByteArray

/-- It lies at a place. -/
structure WordAt (W : World) (g o : Nat) (r : WRec) : Prop where
  ck : W.cell? ⟨g, o, none⟩ = some (.int .i64 r.k)
  cn : W.cell? ⟨g, o + 1, none⟩ = some (.int .i64 r.n)
  cv : W.cell? ⟨g, o + 2, none⟩ = some (.int .u64 r.v)
  cs : W.cell? ⟨g, o + 3, none⟩ = some (.string r.s)
  hn : -9223372036854775808 ≤ r.n ∧ r.n ≤ 9223372036854775807
  hv : 0 ≤ r.v ∧ r.v ≤ 18446744073709551615

/-- A slice of them. -/
def WordsAt (W : World) (ao : Option Addr) (rs : List WRec) : Prop :=
  0 < rs.length → ∃ g o, ao = some ⟨g, o, none⟩ ∧ ∀ i r, rs[i]? = some r → WordAt W g (o + i * 4) r

theorem WordAt.kept {W w : World} {g o : Nat} {r : WRec} (h : WordAt W g o r) (hk : Kept (fun _ => False) W w) : WordAt w g o r :=
  ⟨hk.cell h.ck (fun x => x), hk.cell h.cn (fun x => x), hk.cell h.cv (fun x => x), hk.cell h.cs (fun x => x), h.hn, h.hv⟩
theorem WordsAt.kept {W w : World} {ao : Option Addr} {rs : List WRec} (h : WordsAt W ao rs) (hk : Kept (fun _ => False) W w) : WordsAt w ao rs := fun h0 => by
  obtain ⟨g, o, e, hr⟩ := h h0
  exact ⟨g, o, e, fun i r hi => (hr i r hi).kept hk⟩

theorem wchoose_list {α : Type} {n : Nat} {P : Nat → α → Prop} (h : ∀ i, i < n → ∃ r, P i r) : ∃ l : List α, l.length = n ∧ ∀ i r, l[i]? = some r → P i r := by
  induction n with
  | zero => exact ⟨[], rfl, by simp⟩
  | succ n ih =>
    obtain ⟨l, hl, hp⟩ := ih (fun i hi => h i (by omega))
    obtain ⟨r, hr⟩ := h n (by omega)
    refine ⟨l ++ [r], by simp [hl], fun i r' hi => ?_⟩
    rw [List.getElem?_append] at hi
    split at hi
    · exact hp i r' hi
    · rename_i h1
      have h2 : i - l.length = 0 := by
        rcases Nat.eq_zero_or_pos (i - l.length) with h | h
        · exact h
        · rw [List.getElem?_eq_none (by simp; omega)] at hi; cases hi
      rw [h2] at hi
      simp at hi
      have h3 : i = n := by omega
      subst hi; rw [h3]; exact hr

theorem words_of {H : Type} {enc : TypeId × Value → H} {W : World} {sp : Nat} {a : Option Addr} {len cap : Nat} {d : DataW H} {p : List MemPlace}
    (h : DataW.Trod enc Try.prog W sp (fun _ => true) true 72 (.slice a len cap) d p) : ∃ rs : List WRec, rs.length = len ∧ WordsAt W a rs := by
  rcases recs_of Try.underlying72 Try.underlying78 (by kernel_rfl) (by kernel_rfl) h with ⟨rfl, rfl, rfl⟩ | ⟨x, rfl, hl, hm, hc⟩
  · exact ⟨[], rfl, fun h => absurd h (by simp)⟩
  · rcases Nat.eq_zero_or_pos len with h0 | h0
    · subst h0
      exact ⟨[], rfl, fun h => absurd h (by simp)⟩
    · obtain ⟨g, o, spot⟩ := x
      have hspot : spot = Option.none := by
        obtain ⟨v0, n0, y0, c0, _⟩ := hc 0 h0 0 _ rfl
        simpa [Addr.add] using World.cell?_spot c0
      subst hspot
      have key : ∀ i, i < len → ∃ r : WRec, WordAt W g (o + i * 4) r := by
        intro i hi
        have hcs := hc i hi
        obtain ⟨v0, n0, y0, c0, t0⟩ := hcs 0 _ rfl
        obtain ⟨v1, n1, y1, c1, t1⟩ := hcs 1 _ rfl
        obtain ⟨v2, n2, y2, c2, t2⟩ := hcs 2 _ rfl
        obtain ⟨v3, n3, y3, c3, t3⟩ := hcs 3 _ rfl
        obtain ⟨k0, rfl, _⟩ := wtrod_i64 Try.underlying3 t0
        obtain ⟨k1, rfl, w1⟩ := wtrod_i64 Try.underlying3 t1
        obtain ⟨k2, rfl, w2⟩ := wtrod_i64 Try.underlying76 t2
        obtain ⟨s3, rfl⟩ := wtrod_str Try.underlying9 t3
        rw [Go.WideShapes.add_plain] at c0 c1 c2 c3
        exact ⟨⟨k0, k1, k2, s3⟩, c0, c1, c2, c3, bd_i64 w1, bd_u64 w2⟩
      obtain ⟨rs, hrs, hp⟩ := wchoose_list key
      exact ⟨rs, hrs, fun _ => ⟨g, o, rfl, hp⟩⟩

/-- Are there few, and short? -/
def fewW (rs : List WRec) : Bool := decide (rs.length ≤ 60) && rs.all fun r => decide (r.s.size ≤ 300)

set_option maxHeartbeats 1000000 in
set_option maxRecDepth 100000 in
theorem some2_any (ao : Option Addr) (c : Nat) (rs : List WRec) (w : World) (hr : WordsAt w ao rs) (hl : rs.length ≤ 9223372036854775807) :
    Calls Try.prog 46 #[.slice ao rs.length c] w fun e w' => e = .returned (.bool (fewW rs)) ∧ w = w' := by
  by_cases h1 : 60 < rs.length
  · have HF : Hid (fewW rs = false) := by show _ = _; unfold fewW; rw [decide_eq_false (by omega)]; rfl
    have q1 : (60 : Int) < (rs.length : Int) := by omega
    go_enter Try.func46, Try.ntmps46
    go_wp2
    go_ret
    exact ⟨by rw [HF.out]; rfl, rfl⟩
  · have q1 : ¬ (60 : Int) < (rs.length : Int) := by omega
    have HF : Hid (fewW rs = rs.all fun r => decide (r.s.size ≤ 300)) := by show _ = _; unfold fewW; rw [decide_eq_true (by omega)]; rfl
    have HR := Lib.hid hr
    clear hr
    go_enter Try.func46, Try.ntmps46
    go_wp2
    go_loopg [3] rs.length (fun g s3 wr => ∃ i : Nat, i ≤ rs.length ∧ g = rs.length - i ∧ s3 = .int .i64 i ∧ (rs.all fun r => decide (r.s.size ≤ 300)) = ((rs.drop i).all fun r => decide (r.s.size ≤ 300)) ∧ w = wr)
    case atStart => exact ⟨0, Nat.zero_le _, rfl, rfl, rfl, rfl⟩
    case round =>
      obtain ⟨i, hil, rfl, rfl, hall, rfl⟩ := hrel
      have HALL := Lib.hid hall
      clear hall
      by_cases hd : i < rs.length
      · obtain ⟨g, o, rfl, hrec⟩ := HR.out (by omega)
        have hi' := hrec i rs[i] (List.getElem?_eq_getElem hd)
        have hcb := hi'.cs
        have hdrop : (rs.drop i) = rs[i] :: rs.drop (i + 1) := List.drop_eq_getElem_cons hd
        obtain ⟨r, hrr⟩ : ∃ r, r = rs[i] := ⟨_, rfl⟩
        rw [← hrr] at hcb hdrop
        obtain ⟨S, hS⟩ : ∃ S, S = r.s := ⟨_, rfl⟩
        rw [← hS] at hcb
        have hdi : (i : Int) < (rs.length : Int) := by omega
        have hdi0 : (0 : Int) ≤ (i : Int) := by omega
        have HD := Lib.hid hd
        have HDR := Lib.hid hdrop
        have HLL := Lib.hid hS
        by_cases h40 : 300 < S.size
        · have q2 : (300 : Int) < (S.size : Int) := by omega
          have H3 : Hid (fewW rs = false) := by
            show _ = _
            rw [HF.out, HALL.out, HDR.out, List.all_cons, decide_eq_false (by rw [← HLL.out]; omega)]; rfl
          clear hrec hi' hdrop hrr hS hd
          go_wp2
          go_ret
          exact ⟨by rw [H3.out]; rfl, rfl⟩
        · have q2 : ¬ (300 : Int) < (S.size : Int) := by omega
          have H3 : Hid ((rs.all fun r => decide (r.s.size ≤ 300)) = ((rs.drop (i + 1)).all fun r => decide (r.s.size ≤ 300))) := by
            show _ = _
            rw [HALL.out, HDR.out, List.all_cons, decide_eq_true (by rw [← HLL.out]; omega)]; rfl
          clear hrec hi' hdrop hrr hS hd
          go_wp2
          go_roundg (rs.length - (i + 1))
          case measure => have := HD.out; omega
          case rel => exact ⟨i + 1, HD.out, rfl, by go_num, H3.out, rfl⟩
      · obtain rfl : i = rs.length := by omega
        have H3 : Hid (fewW rs = true) := by show _ = _; rw [HF.out, HALL.out, List.drop_length]; rfl
        go_wp2
        go_ret
        exact ⟨by rw [H3.out]; rfl, rfl⟩

set_option maxHeartbeats 1000000 in
set_option maxRecDepth 100000 in
theorem refText_any (s : ByteArray) (w : World) (hs : s.size ≤ 1000000000) :
    Calls Try.prog 55 #[.string s] w (Cloned 5 w (numB s.size ++ strB s)) := by
  obtain ⟨i0, hi, hz0, hz1, hz2⟩ := info_parts Try.info5
  have e0 : IntKind.u64.wrap (s.size : Int) = s.size := wrap_u64_of _ (by omega) (by omega)
  have ho := oth_le s.size
  have hln : (numB s.size).length ≤ 9 := by rw [numB_length]; omega
  obtain ⟨l, hl⟩ : ∃ l, l = numB s.size := ⟨_, rfl⟩
  have HNUM := Lib.hid (refNum_any s.size w (by omega) (by omega))
  rw [← hl] at HNUM hln
  rw [← hl]
  have hs2 := Lib.hid (strB_cells s)
  have hs3 := Lib.hid (strB_length s)
  clear hl
  go_enter Try.func55, Try.ntmps55
  go_wp2_with fail
  refine HNUM.out.mono ?_
  rintro e w1 ⟨v1, rfl, ho1, K1⟩
  obtain ⟨ao1, cp1, rfl⟩ := ownsRow_slice ho1
  go_wp2_with (at_builtin; go_loud (refine wpList_append_src _ rfl (.tmp 6) (.tmp 7) 27 9 rfl w.heap.size 5 i0 (.int .u8 0) 1 1 Try.underlying27 hi hz0 hz1 hz2 rfl (.slice ao1 l.length cp1) l.length (u8s l) rfl ho1 (.string s) s.size (byteCells s) rfl (Src.ofString w1 Try.underlying9 s) ?c1 ?c2 ?c3 ?_))
  case c1 => unfold maxLen; omega
  case c2 => omega
  case c3 => exact K1.size
  intro v2 w2 hown hg _ hat
  have hk := own_kept K1 (Kept.refl _ _) ho1 hg
  rw [← hs2.out] at hown
  have hf : Cloned 5 w (l ++ strB s) (.returned v2) w2 := ⟨v2, rfl, by rw [List.length_append, hs3.out]; unfold u8s; rw [List.map_append]; exact hown, hk⟩
  have HF := Lib.hid hf
  clear hf hown hg hat ho1
  go_wp2
  go_ret
  exact HF.out

/-- `[]byte(s)` -/
theorem strBytes_run {P : Program} (w : World) (src dst : TypeId) (s : ByteArray) (hs : P.underlying src = some .string) (hd : P.underlying dst = some (.slice 5)) (he : P.underlying 5 = some (.int .u8)) :
    (convert src dst (.string s)).run P w = .ok (.slice (some ⟨w.heap.size, 0, none⟩) s.size (grownCap w s.size 0 5)) (Lib.bytesWorld w 5 s) := Lib.run_convert_string_bytes w src dst 5 s hs hd he
theorem strBytes_kept (w : World) (e : TypeId) (s : ByteArray) : Kept (fun _ => False) w (Lib.bytesWorld w e s) :=
  ⟨rfl, rfl, rfl, by rw [Lib.bytesWorld_size]; omega, fun j hj _ => Lib.bytesWorld_at_old w e s j hj⟩
theorem strBytes_src {P : Program} (w : World) (e t : TypeId) (s : ByteArray) (c : Nat) (ht : P.underlying t = some (.slice e)) : Src P 1 t (.slice (some ⟨w.heap.size, 0, none⟩) s.size c) (strB s).length (u8s (strB s)) (Lib.bytesWorld w e s) := by
  rw [strB_length]
  refine Src.ofSlice _ ht _ _ c _ (by simp [strB_length]) (fun j u hj => ?_) (u8s_one _)
  have hlt : j < s.size := by
    have := (List.getElem?_eq_some_iff.1 hj).1
    simpa [strB_length] using this
  rw [addr_add, Lib.bytesWorld_cell w e s j hlt]
  unfold u8s strB at hj
  rw [List.map_map, List.getElem?_map] at hj
  obtain ⟨b, hb, rfl⟩ := Option.map_eq_some_iff.1 hj
  rw [List.getD_eq_getElem?_getD, hb]; rfl
end Go.Proofs.Ytkidbbmdlmnokaa
