/- package hist: Trim. -/
import Derived.Test.YtbjpcddnjndjlaaH4
namespace Go.Proofs.Ytbjpcddnjndjlaa
open Go.RowKit
attribute [local go_sem ↓] Go.wp_at_zero Go.wp_at_succ

/-- What a side is without empty buckets at its ends. -/
def TrimOf (o : Int) (l : List Nat) (o' : Int) (l' : List Nat) : Prop :=
  ((∀ j, j < l.length → l.getD j 0 = 0) ∧ o' = 0 ∧ l' = []) ∨
  ∃ a b, a < b ∧ b ≤ l.length ∧ (∀ j, j < a → l.getD j 0 = 0) ∧ (∀ j, b ≤ j → j < l.length → l.getD j 0 = 0) ∧ l.getD a 0 ≠ 0 ∧ l.getD (b - 1) 0 ≠ 0 ∧ o' = o + (a : Int) ∧ l' = (l.drop a).take (b - a)
theorem TrimOf.uniq {o : Int} {l : List Nat} {o1 o2 : Int} {l1 l2 : List Nat} (h1 : TrimOf o l o1 l1) (h2 : TrimOf o l o2 l2) : o1 = o2 ∧ l1 = l2 := by
  rcases h1 with ⟨z1, rfl, rfl⟩ | ⟨a, b, hab, hb, ha0, hb0, hna, hnb, rfl, rfl⟩
  · rcases h2 with ⟨_, rfl, rfl⟩ | ⟨a, b, hab, hb, _, _, hna, _⟩
    · exact ⟨rfl, rfl⟩
    · exact absurd (z1 a (by omega)) hna
  · rcases h2 with ⟨z2, rfl, rfl⟩ | ⟨a', b', hab', hb', ha0', hb0', hna', hnb', rfl, rfl⟩
    · exact absurd (z2 a (by omega)) hna
    · have e1 : a = a' := by
        rcases Nat.lt_trichotomy a a' with h | h | h
        · exact absurd (ha0' a h) hna
        · exact h
        · exact absurd (ha0 a' h) hna'
      have e2 : b = b' := by
        rcases Nat.lt_trichotomy b b' with h | h | h
        · exact absurd (hb0 (b' - 1) (by omega) (by omega)) hnb'
        · exact h
        · exact absurd (hb0' (b - 1) (by omega) (by omega)) hnb
      subst e1 e2
      exact ⟨rfl, rfl⟩

/-- What a call answers that makes a side. -/
def SideOut (w : World) (P : Int → List Nat → Prop) (e : Ending) (w' : World) : Prop := ∃ o' l' v', P o' l' ∧ e = .returned (.agg #[.int .i64 o', v']) ∧ Mine w w' 22 v' (uvals l')

theorem side_info : (Try.prog.info? 25).map (·.size) = some 2 := by kernel_rfl
/-- A side in its block. -/
def SideBox (w : World) (q : Nat) (o : Int) (v : Value) : Prop := w.heap[q]? = some (.cells #[.int .i64 o, v] 25 (0, 0))
theorem SideBox.c {w : World} {q : Nat} {o : Int} {v : Value} (h : SideBox w q o v) : (w.cell? ⟨q, 0, none⟩ = some (.int .i64 o) ∧ w.cell? ⟨q, 1, none⟩ = some v) ∧ w.frozen? ⟨q, 0, none⟩ = false ∧ w.frozen? ⟨q, 1, none⟩ = false := by
  refine ⟨⟨?_, ?_⟩, ?_⟩
  · rw [cell_of_row _ _ 0 _ _ _ h]; rfl
  · rw [cell_of_row _ _ 1 _ _ _ h]; rfl
  · unfold SideBox at h; simp [World.frozen?, h]
theorem SideBox.set {w : World} {q : Nat} {o : Int} {v : Value} (h : SideBox w q o v) (o' : Int) (v' : Value) : SideBox ((w.setCell ⟨q, 0, none⟩ (.int .i64 o')).setCell ⟨q, 1, none⟩ v') q o' v' := by
  unfold SideBox at *; simp [World.setCell, Array.getElem?_modify, h]
theorem SideBox.same {S : Nat → Prop} {w w' : World} {q : Nat} {o : Int} {v : Value} (h : SideBox w q o v) (hk : Kept S w w') (hn : ¬ S q) : SideBox w' q o v := hk.same h hn
theorem two_kept {W w : World} {g : Nat} {x y : Value} (h : Kept (fun _ => False) W w) (hg : W.heap.size ≤ g) : Kept (fun _ => False) W ((w.setCell ⟨g, 0, none⟩ x).setCell ⟨g, 1, none⟩ y) :=
  (h.setCell (p := ⟨g, 0, none⟩) (fun hlt => by simp only at hlt; omega) x).setCell (p := ⟨g, 1, none⟩) (fun hlt => by simp only at hlt; omega) y
theorem Mine.setBox {W w : World} {E : TypeId} {v : Value} {xs : List Value} {q : Nat} {o : Int} {v0 : Value} (h : Mine W w E v xs) (hb : SideBox w q o v0) (hE : E ≠ 25) (hq : W.heap.size ≤ q) (x y : Value) : Mine W ((w.setCell ⟨q, 0, none⟩ x).setCell ⟨q, 1, none⟩ y) E v xs :=
  h.keptS (((Kept.refl (fun k => k = q) w).setCell (p := ⟨q, 0, none⟩) (fun _ => rfl) x).setCell (p := ⟨q, 1, none⟩) (fun _ => rfl) y) (fun k e x => own_box h.own hb hE (by rw [e, x])) (fun k e => by omega)
theorem side_end {fn : Func} {p : Tmp} {a : Act} {P : Ending → World → Prop} {w : World} {q : Nat} {o : Int} {v : Value} (hres : fn.results = #[.cell p 25]) (hp : a.tmps.getD p undef = .pointer (some ⟨q, 0, none⟩)) (hd : a.defers = [])
    (hg : SideBox w q o v) (h : P (.returned (.agg #[.int .i64 o, v])) w) : bodyPost Try.prog fn P .ret a w :=
  bodyPost_ret (v := .agg #[.int .i64 o, v]) (results_cell_row hres _ _ q 25 _ (0, 0) _ hp hg Try.underlying25 rfl side_info) hd h

set_option maxHeartbeats 4000000 in
set_option maxRecDepth 100000 in
theorem histTrim_any (o : Int) (l : List Nat) (v : Value) (w : World) (hv : SlAt w v (uvals l)) (hcap : ∀ a n c, v = .slice a n c → n ≤ c) (ho : -4000000000000000000 ≤ o ∧ o ≤ 4000000000000000000) (hl : l.length ≤ 1000000) :
    Calls Try.prog 20 #[.agg #[.int .i64 o, v]] w (SideOut w (TrimOf o l)) := by
  obtain ⟨h0, h1⟩ := ho
  have hv0 := Lib.hid hv
  obtain ⟨ao, c, hval, _, _⟩ := hv.val
  rw [uvals_length] at hval
  subst hval
  have hcp := hcap _ _ _ rfl
  clear hv hcap
  go_enter Try.func20, Try.ntmps20
  go_wp2
  go_quiet (fail)
  obtain ⟨w2, hw2⟩ : ∃ w2, w2 = (((w.alloc (.cells #[.int .i64 o, .slice ao l.length c] 25)).alloc (.cells #[.int .i64 0, .slice none 0 0] 25)).drewN nq) := ⟨_, rfl⟩
  have k2 : Kept (fun _ => False) w w2 := by rw [hw2]; exact (((Kept.refl _ w).alloc _).alloc _).drewN _
  have bx : SideBox w2 w.heap.size o (.slice ao l.length c) := by
    rw [hw2]
    exact (((Kept.refl (fun _ => False) (w.alloc (.cells #[.int .i64 o, .slice ao l.length c] 25))).alloc _).drewN nq).same (heap_alloc_new w _) (fun x => x)
  have rx : SideBox w2 (w.heap.size + 1) 0 (.slice none 0 0) := by
    rw [hw2]
    have := heap_alloc_new (w.alloc (.cells #[.int .i64 o, .slice ao l.length c] 25)) (.cells #[.int .i64 0, .slice none 0 0] 25)
    simpa [SideBox] using this
  rw [← hw2]
  have K2 := Lib.hid k2
  have RX := Lib.hid rx
  have BX := Lib.hid bx
  obtain ⟨⟨b0, b1⟩, _⟩ := bx.c
  have HCELL := Lib.hid fun j (hj : j < l.length) => (hv0.out.kept K2.out (fun _ _ x => x)).elem (uvals_get hj)
  clear hw2 k2 bx rx
  go_wp2
  go_loopg [3] l.length (fun g s3 wr => ∃ i : Nat, i ≤ l.length ∧ g = l.length - i ∧ s3 = .int .i64 i ∧ (∀ j, j < i → l.getD j 0 = 0) ∧ w2 = wr)
  case atStart => exact ⟨0, Nat.zero_le _, rfl, rfl, fun j h => by omega, rfl⟩
  case round =>
    obtain ⟨i, hil, rfl, rfl, hz, rfl⟩ := hrel
    have HZ := Lib.hid hz
    have i0 : (0 : Int) ≤ (i : Int) := by omega
    clear hz
    by_cases hgo : i < l.length ∧ l.getD i 0 = 0
    · obtain ⟨hd, hx⟩ := hgo
      have hdi : (i : Int) < (l.length : Int) := by omega
      obtain ⟨g, off, rfl, c0⟩ := HCELL.out i hd
      rw [hx] at c0
      have c0' : w2.cell? ⟨g, off + i, none⟩ = some (.int .u64 0) := c0
      have HD := Lib.hid hd
      have HZ2 := Lib.hid (show ∀ j, j < i + 1 → l.getD j 0 = 0 from fun j hj => by
        by_cases e : j = i
        · rw [e]; exact hx
        · exact HZ.out j (by omega))
      clear c0 hx hd
      go_wp2
      go_roundg (l.length - (i + 1))
      case measure => have := HD.out; omega
      case rel => exact ⟨i + 1, HD.out, rfl, by go_num, HZ2.out, rfl⟩
    · have hstop : i = l.length ∨ (i < l.length ∧ l.getD i 0 ≠ 0) := by
        by_cases e : i = l.length
        · exact .inl e
        · exact .inr ⟨by omega, fun h => hgo ⟨by omega, h⟩⟩
      clear hgo
      rcases hstop with rfl | ⟨hd, hx⟩
      · have HF : Hid (TrimOf o l 0 []) := Lib.hid (.inl ⟨HZ.out, rfl, rfl⟩)
        clear hil HCELL
        go_wp2
        go_loopg [4] 0 (fun g s4 wr => g = 0 ∧ s4 = .int .i64 l.length ∧ w2 = wr)
        case atStart => exact ⟨rfl, rfl, rfl⟩
        case round =>
          obtain ⟨rfl, rfl, rfl⟩ := hrel
          obtain ⟨⟨r0, r1⟩, f0, f1⟩ := RX.out.c
          go_wp2
          refine side_end (o := 0) (v := .slice none 0 0) Try.results20 rfl rfl (RX.out.set 0 (.slice none 0 0)) ?_
          exact ⟨0, [], _, HF.out, rfl, Mine.nil' _ (two_kept K2.out (by omega))⟩
      · have hdi : (i : Int) < (l.length : Int) := by omega
        obtain ⟨g, off, rfl, c0⟩ := HCELL.out i hd
        have HCE := Lib.hid fun j (hj : j < l.length) => show w2.cell? ⟨g, off + j, none⟩ = some (.int .u64 ((l.getD j 0 : Nat) : Int)) from by
          obtain ⟨_, _, e', b⟩ := HCELL.out j hj
          injection e' with e'; injection e' with e1 e2; subst e1; subst e2
          exact b
        obtain ⟨x, hxe⟩ : ∃ x, x = l.getD i 0 := ⟨_, rfl⟩
        rw [← hxe] at c0 hx
        have q : ((x : Int) == 0) = false := beqF (by omega)
        have HXE := Lib.hid hxe
        have HXN := Lib.hid hx
        have HD := Lib.hid hd
        clear hxe hx hd hil HCELL
        go_wp2
        go_loopg [4] l.length (fun g' s4 wr => ∃ b : Nat, i < b ∧ b ≤ l.length ∧ g' = b ∧ s4 = .int .i64 b ∧ (∀ j, b ≤ j → j < l.length → l.getD j 0 = 0) ∧ w2 = wr)
        case atStart => exact ⟨l.length, HD.out, Nat.le_refl _, rfl, rfl, fun j h1 h2 => by omega, rfl⟩
        case round =>
          obtain ⟨b, hib, hbl, rfl, rfl, hz2, rfl⟩ := hrel
          have HZ2 := Lib.hid hz2
          obtain ⟨b', hb'⟩ : ∃ b', b' = gk - 1 := ⟨_, rfl⟩
          have hbi : (i : Int) < (gk : Int) := by omega
          have e1 : IntKind.i64.wrap ((gk : Int) - 1) = (b' : Int) := by rw [IntWalk.i64_in _ ⟨by omega, by omega⟩]; omega
          have e2 : (gk : Int) - 1 = (b' : Int) := by omega
          have b'0 : (0 : Int) ≤ (b' : Int) := by omega
          have b'l : (b' : Int) < (l.length : Int) := by omega
          have cb := HCE.out b' (by omega)
          obtain ⟨y, hye⟩ : ∃ y, y = l.getD b' 0 := ⟨_, rfl⟩
          rw [← hye] at cb
          clear hz2
          by_cases hy : y = 0
          · have hne : b' ≠ i := by
              intro e
              rw [e, ← HXE.out] at hye
              exact HXN.out (by rw [← hye]; exact hy)
            have qy : ((y : Int) == 0) = true := beqT (by omega)
            have HZ3 := Lib.hid (show ∀ j, b' ≤ j → j < l.length → l.getD j 0 = 0 from fun j h1 h2 => by
              by_cases e : j = b'
              · rw [e, ← hye]; exact hy
              · exact HZ2.out j (by omega) h2)
            have HB := Lib.hid (show i < b' ∧ b' ≤ l.length ∧ b' < gk by omega)
            clear hye hy hb' hbl hib hne
            go_wp2
            go_roundg b'
            case measure => exact HB.out.2.2
            case rel => exact ⟨b', HB.out.1, HB.out.2.1, rfl, rfl, HZ3.out, rfl⟩
          · have qy : ((y : Int) == 0) = false := beqF (by omega)
            have hne : ((i : Int) == (gk : Int)) = false := beqF (by omega)
            have HF : Hid (TrimOf o l (o + (i : Int)) ((l.drop i).take (gk - i))) := Lib.hid (.inr ⟨i, gk, hib, hbl, HZ.out, HZ2.out, by rw [← HXE.out]; exact HXN.out, by rw [← hb', ← hye]; exact hy, rfl, rfl⟩)
            have ow : IntKind.i64.wrap (o + (i : Int)) = o + (i : Int) := IntWalk.i64_in _ ⟨by omega, by omega⟩
            obtain ⟨n, hn⟩ : ∃ n, n = gk - i := ⟨_, rfl⟩
            obtain ⟨iU, hiU, hzU0, hzU1, hzU2⟩ := info_parts Try.infoU64
            have hct := hv0.out.cut (lo := i) (hi := gk) (by omega) (by omega) hcp
            obtain ⟨ao2, hao2⟩ : ∃ a : Option Addr, a = if c = i then some ⟨g, off, none⟩ else (some (⟨g, off, none⟩ : Addr)).map (·.add i) := ⟨_, rfl⟩
            rw [← hao2, ← hn] at hct
            have hbx : ((uvals l).drop i).take n = uvals ((l.drop i).take n) := by unfold uvals; rw [List.map_take, List.map_drop]
            rw [hbx] at hct
            rw [← hn] at HF
            have s1 : ∀ w, (Instr.slice 23 (.slice (some ⟨g, off, none⟩) l.length c) (some (.int .i64 (i : Int))) (some (.int .i64 (gk : Int))) none).run Try.prog w = .ok (.slice ao2 n (c - i)) w := fun w => by
              have := run_cut (P := Try.prog) Try.underlying23 hiU hzU1 (some ⟨g, off, none⟩) l.length c i gk (by omega) (by omega) w
              rw [← hao2, ← hn] at this; exact this
            have s2 : ∀ w, (Instr.sliceAt 23 (.slice (some ⟨g, off, none⟩) l.length c) (some (.int .i64 (i : Int))) (some (.int .i64 (gk : Int))) none).run Try.prog w = .ok (.slice ao2 n (c - i)) w := fun w => by
              have := run_cutAt (P := Try.prog) Try.underlying23 hiU hzU1 (some ⟨g, off, none⟩) l.length c i gk (by omega) (by omega) w
              rw [← hao2, ← hn] at this; exact this
            have HCL := Lib.hid fun w' (h : Kept (fun _ => False) w w') => sclone_any _ _ w' (hct.kept h (fun _ _ x => x)) (uvals_one _) (by rw [uvals_length, List.length_take, List.length_drop]; omega)
            have kd : Kept (fun _ => False) w w2.drew := K2.out.drew
            clear hye hy hb' hbl hib hn hao2 hct hbx c0
            go_wp2
            go_region_held3 (fun w' => w'.cell? ⟨w.heap.size, 0, none⟩ = some (.int .i64 o) ∧ w'.cell? ⟨w.heap.size, 1, none⟩ = some (.slice (some ⟨g, off, none⟩) l.length c)) (first | exact ⟨b0, b1⟩ | exact HB3.out | go_keep)
              (first
                | (go_at_call 41; refine (HCL.out _ (by assumption)).mono ?_; rintro e w3 ⟨v3, rfl, hm3⟩; obtain ⟨a3, c3, rfl⟩ := hm3.slice; have HM3 := Lib.hid (hm3.down kd); have bx3 := (BX.out.same ((Kept.refl (fun _ => False) w2).drew.trans hm3.kept) (fun x => x)); have HB3 := Lib.hid bx3.c.1; have rx3 := RX.out.same ((Kept.refl (fun _ => False) w2).drew.trans hm3.kept) (fun x => x); have RX3 := Lib.hid rx3; have r0 := rx3.c.1.1; have r1 := rx3.c.1.2; have f0 := rx3.c.2.1; have f1 := rx3.c.2.2; clear hm3 bx3 rx3)
                | fail)
            go_wp2
            refine side_end (o := o + (i : Int)) (v := .slice a3 (uvals ((l.drop i).take n)).length c3) Try.results20 rfl rfl (RX3.out.set _ _) ?_
            exact ⟨o + (i : Int), _, _, HF.out, rfl, HM3.out.setBox RX3.out (by decide) (by omega) _ _⟩
end Go.Proofs.Ytbjpcddnjndjlaa
