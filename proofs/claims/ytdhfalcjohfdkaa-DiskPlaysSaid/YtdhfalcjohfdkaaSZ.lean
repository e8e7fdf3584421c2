/- Layer 18: Bulk; files that came in; the walk of DiskPlays. -/
import Derived.Test.YtdhfalcjohfdkaaSR
import Derived.Test.YtdhfalcjohfdkaaSW
import Derived.Test.YtdhfalcjohfdkaaSY
import Derived.Test.YtdhfalcjohfdkaaSK
namespace Go.Proofs.Ytdhfalcjohfdkaa
open Go.ChangeShapes Go.WideShapes Go.ChangeAt Go.Deep Go.RowKit
attribute [local go_sem ↓] Go.wp_at_zero Go.wp_at_succ

theorem file_cells {H : Type} {enc : TypeId × Value → H} {W : World} {sp n : Nat} {c0 c1 : Value} {y : DataW H × List MemPlace} (hf : DataW.trod enc Try.prog W sp (fun _ => true) true n 50 [c0, c1] = some y) :
    ∃ x : AF, [c0, c1] = cellsA x ∧ x.Ok W := by
  obtain ⟨y0, y1, m, _, _, h0, h1⟩ := trod_struct2 Try.underlying50 (cs := [c0, c1]) hf
  have k1 : Try.prog.cellsOf 9 = 1 := by kernel_rfl
  have k3 : Try.prog.cellsOf 39 = 1 := by kernel_rfl
  simp only [k1, k3, List.drop_zero, List.drop_succ_cons, List.take_succ_cons, List.take_zero] at h0 h1
  obtain ⟨s1, e1, _, w1⟩ := DataW.trod_string Try.underlying9 h0
  obtain ⟨ka, kl, kc, zs, rfl, hr⟩ := trod_row Try.underlying39 Try.underlying5 (by kernel_rfl) h1
  injection e1 with e1 _
  subst e1
  obtain ⟨l, hl, hwf, hsl⟩ := hr.slAtN 256 wf_u8
  have hc := (isRow_cap hr).1
  subst hl
  exact ⟨⟨s1, ka, kc, l⟩, rfl, ⟨hsl, hwf, w1, hc⟩⟩
structure FilesIn (W : World) (ao : Option Addr) (L : List AF) : Prop where
  at_ : GAt cellsA 2 W ao L
  ok : ∀ x ∈ L, x.Ok W
set_option maxRecDepth 100000 in
theorem files_of {H : Type} {enc : TypeId × Value → H} {W : World} {sp : Nat} {a : Option Addr} {len cap : Nat} {d : DataW H} {p : List MemPlace}
    (h : DataW.Trod enc Try.prog W sp (fun _ => true) true 22 (.slice a len cap) d p) : ∃ L : List AF, L.length = len ∧ FilesIn W a L ∧ len ≤ cap ∧ len ≤ 9223372036854775807 := by
  obtain ⟨fuel, hf⟩ := h
  have k6 : Try.prog.cellsOf 50 = 2 := by kernel_rfl
  rcases open_slice Try.underlying22 hf with ⟨hcs, _⟩ | ⟨x, l, c, m, n, D, Pl, hcs, _, hl, hm, hmm, _, hi⟩
  · simp [Value.cells] at hcs
    obtain ⟨rfl, rfl, rfl⟩ := hcs
    exact ⟨[], rfl, ⟨fun h => absurd h (by simp), fun p hp => (by cases hp)⟩, Nat.le_refl _, by omega⟩
  · simp [Value.cells] at hcs
    obtain ⟨rfl, rfl, rfl⟩ := hcs
    unfold maxLen at hm
    rcases Nat.eq_zero_or_pos len with h0 | h0
    · subst h0
      exact ⟨[], rfl, ⟨fun h => absurd h (by simp), fun p hp => (by cases hp)⟩, by omega, by omega⟩
    · have key0 : ∀ i, i < len → ∃ q : AF, (∀ j u, (cellsA q)[j]? = some u → W.cell? (x.add (i * 2 + j)) = some u) ∧ q.Ok W := by
        intro i hi'
        obtain ⟨cs', hc, ht'⟩ := hi i (by simp at hmm; omega)
        rw [k6] at hc
        obtain ⟨hlen, hcl, hat⟩ := World.cells?_some hc
        match cs', hcl with
        | [c0, c1], _ =>
          obtain ⟨q, e, hq⟩ := file_cells ht'
          refine ⟨q, fun j u hj => ?_, hq⟩
          rw [← e] at hj
          have hj2 : j < 2 := by
            have := (List.getElem?_eq_some_iff.1 hj).1
            simpa using this
          have := hat j hj2
          rw [Go.Deep.add_add] at this
          rw [this]
          exact hj
      obtain ⟨g, o, spot⟩ := x
      have hspot : spot = Option.none := by
        obtain ⟨q, hq, _⟩ := key0 0 h0
        have c0 := hq 0 _ rfl
        simpa [Addr.add] using World.cell?_spot c0
      subst hspot
      have key : ∀ i, i < len → ∃ q : AF, (∀ j u, (cellsA q)[j]? = some u → W.cell? ⟨g, o + i * 2 + j, none⟩ = some u) ∧ q.Ok W := by
        intro i hi'
        obtain ⟨q, hq, h1⟩ := key0 i hi'
        refine ⟨q, fun j u hj => ?_, h1⟩
        have := hq j u hj
        rwa [Go.WideShapes.add_plain, ← Nat.add_assoc] at this
      obtain ⟨rs, hrs, hp⟩ := choose_list key
      refine ⟨rs, hrs, ⟨fun _ => ⟨g, o, rfl, fun i p hi => (hp i p hi).1⟩, fun p hpm => ?_⟩, hl, by omega⟩
      obtain ⟨i, hi, e⟩ := List.getElem_of_mem hpm
      exact (hp i p (by rw [List.getElem?_eq_getElem hi, e])).2

set_option maxRecDepth 100000 in
set_option maxHeartbeats 2000000 in
theorem bulk_any (ao : Option Addr) (c : Nat) (F : List AF) (w : World) (hat : GAt cellsA 2 w ao F) (hl : F.length ≤ 9223372036854775807) :
    Calls Try.prog 7 #[.slice ao F.length c, .int .i64 3000] w fun e w' => ∃ z : Int, e = .returned (.int .i64 z) ∧ w = w' := by
  have HR := Lib.hid hat
  clear hat
  go_enter Try.func7, Try.ntmps7
  go_wp2
  go_loopg [5, 6] F.length (fun g s5 s6 wr => w = wr ∧ ∃ i : Nat, i ≤ F.length ∧ g = F.length - i ∧ s6 = .int .i64 (i : Int) ∧ ∃ z : Int, s5 = .int .i64 z)
  case atStart => exact ⟨rfl, 0, Nat.zero_le _, rfl, rfl, 0, rfl⟩
  case round =>
    obtain ⟨rfl, i, hil, rfl, rfl, z, rfl⟩ := hrel
    by_cases hd : i < F.length
    · have hdi : (i : Int) < (F.length : Int) := by omega
      by_cases hz : z ≤ 3000
      · have qz : decide (z ≤ 3000) = true := decide_eq_true hz
        obtain ⟨g, o, rfl, hrec⟩ := HR.out (by omega)
        have hi := List.getElem?_eq_getElem hd
        obtain ⟨r, hrr⟩ : ∃ r, r = F[i] := ⟨_, rfl⟩
        rw [← hrr] at hi
        have h1 := hrec i r hi 1 (.slice r.a r.b.length r.c) rfl
        obtain ⟨B, hB⟩ : ∃ B, B = r.b.length := ⟨_, rfl⟩
        rw [← hB] at h1
        have HD := Lib.hid hd
        have wi : IntKind.i64.wrap ((i : Int) + 1) = ((i + 1 : Nat) : Int) := by rw [IntWalk.i64_in _ ⟨by omega, by omega⟩]; omega
        clear hrec hi hrr hB hd
        go_wp2
        go_roundg (F.length - (i + 1))
        case measure => have := HD.out; omega
        case rel => exact ⟨rfl, i + 1, HD.out, rfl, rfl, _, rfl⟩
      · have qz : decide (z ≤ 3000) = false := decide_eq_false hz
        go_wp2
        go_ret
        exact ⟨⟨z, rfl⟩, rfl⟩
    · have hdi : ¬ (i : Int) < (F.length : Int) := by omega
      have hdi' : decide (i < F.length) = false := decide_eq_false hd
      go_wp2
      go_ret
      exact ⟨⟨z, rfl⟩, rfl⟩

theorem behindD_cap {D : DA} {f : DA → DA × Int} (h : ∀ E : DA, (f E).1.cap = E.cap) : (behindD D f).1.cap = D.cap := by
  unfold behindD
  split
  · rw [h, (beginD_L D).2]
  · rw [(beginD_L D).2]
theorem withF_cap {A : ByteArray} {g : PF → DA → DA × Int} (h : ∀ f E, (g f E).1.cap = E.cap) (E : DA) : (withF A g E).1.cap = E.cap := by
  unfold withF
  split
  · rfl
  · exact h _ _
/-- Whatever is done, as many bytes may be as before. -/
theorem act_cap (D : DA) (x : Ac) : (actD D x).1.cap = D.cap := by
  unfold actD
  split
  · unfold createD
    refine behindD_cap (fun E => ?_)
    unfold createF
    split
    · rfl
    · split
      · rfl
      · split <;> rfl
  split
  · unfold appendD
    refine behindD_cap (withF_cap (fun f E => ?_))
    split <;> rfl
  split
  · unfold syncD
    exact behindD_cap (withF_cap (fun f E => rfl))
  split
  · unfold cutD
    refine behindD_cap (withF_cap (fun f E => ?_))
    split <;> rfl
  split
  · unfold renameD
    refine behindD_cap (fun E => ?_)
    split
    · rfl
    · exact withF_cap (fun f E => rfl) E
  split
  · unfold removeD
    exact behindD_cap (withF_cap (fun f E => rfl))
  split
  · rfl
  split
  · rfl
  split
  · unfold bootD
    split <;> rfl
  · rfl
theorem newD_cap {F : List (ByteArray × List Nat)} {cap : Int} {D : DA} (h : newD F cap = some D) : D.cap = cap := by
  unfold newD at h
  split at h
  · cases h
  · cases hx : newL cap F [] with
    | none => rw [hx] at h; cases h
    | some M => rw [hx] at h; injection h with h; rw [← h]
theorem usedA_le {D : DA} (h : DOk D) : usedA D ≤ D.cap := by
  unfold usedA
  split
  · have := h.capR; omega
  · exact h.used
set_option maxRecDepth 100000 in
set_option maxHeartbeats 16000000 in
theorem diskPlays_walk (fa : Option Addr) (fc : Nat) (F : List AF) (cap : Int) (la : Option Addr) (lc : Nat) (l : List Ac) (W : World)
    (hF : FilesIn W fa F) (hFl : F.length ≤ 9223372036854775807) (_hcap : -9223372036854775808 ≤ cap ∧ cap ≤ 9223372036854775807) (hl : ActsIn W la l) (hll : l.length ≤ 9223372036854775807) :
    Calls Try.prog 3 #[.slice fa F.length fc, .int .i64 cap, .slice la l.length lc] W fun e w' => e = .returned (.bool true) ∧ Kept (fun _ => False) W w' := by
  have HA := Lib.hid (awake18_any W)
  have HBK := Lib.hid (fun w (k : Kept (fun _ => False) W w) => bulk_any fa fc F w (hF.at_.kept k) hFl)
  have HFEW := Lib.hid (fun w (k : Kept (fun _ => False) W w) => few18_any la lc l w (hl.at_.kept k) hll (fun x hx => ⟨(hl.ok x hx).A, (hl.ok x hx).B⟩))
  have HFO := Lib.hid (fun h : fewC l = true => fewC_ok h hl.ok)
  obtain ⟨fw, hfw⟩ : ∃ f, f = fewC l := ⟨_, rfl⟩
  rw [← hfw] at HFEW
  have HFW := Lib.hid hfw
  have hfok : ∀ w, Kept (fun _ => False) W w → ∀ f ∈ F, f.Ok w := fun w k f hf => ⟨(hF.ok f hf).at_.kept k (fun _ _ x => x), (hF.ok f hf).byte, (hF.ok f hf).small, (hF.ok f hf).cap⟩
  obtain ⟨n, hn⟩ : ∃ n, n = F.length := ⟨_, rfl⟩
  have HN := Lib.hid (fun w (k : Kept (fun _ => False) W w) => dNew_any fa n fc F hn.symm cap (by omega) w (hF.at_.kept k) (hfok w k))
  have HRN := Lib.hid (fun w (k : Kept (fun _ => False) W w) => refNew_any fa n fc F hn.symm cap (by omega) w (hF.at_.kept k) (hfok w k))
  have HOLD : Hid (∀ k, (∃ f ∈ F, f.b ≠ [] ∧ (Value.slice f.a f.b.length f.c).ownBlock = some k) → k < W.heap.size) := Lib.hid (fun k ⟨f, hf, h0, e⟩ => ((hF.ok f hf).at_.blk (byV_ne' h0) e).1)
  obtain ⟨r, hr⟩ : ∃ r, r = newD (F.map AF.t) cap := ⟨_, rfl⟩
  rw [← hr] at HN HRN
  have HR := Lib.hid hr
  have HL := Lib.hid hl
  rw [← hn] at HBK ⊢
  clear hfw hfok hF hl hr hn hFl
  go_enter Try.func3, Try.ntmps3
  go_wp2_with fail
  refine HA.out.mono ?_
  rintro e w1 ⟨rfl, k1⟩
  have HK1 := Lib.hid k1
  clear k1
  go_wp2_with fail
  refine (HBK.out w1 HK1.out).mono ?_
  rintro e w2 ⟨z, rfl, rfl⟩
  by_cases hz : 3000 < z
  · have qz : decide (3000 < z) = true := decide_eq_true hz
    go_wp2
    go_ret
    exact ⟨rfl, HK1.out⟩
  have qz : decide (3000 < z) = false := decide_eq_false hz
  by_cases h30 : 30 < n
  · have q30 : (30 : Int) < (n : Int) := by omega
    have q30' : decide (30 < n) = true := decide_eq_true h30
    go_wp2
    go_ret
    exact ⟨rfl, HK1.out⟩
  have q30 : ¬ (30 : Int) < (n : Int) := by omega
  have q30' : decide (30 < n) = false := decide_eq_false h30
  clear h30 hz
  go_wp2_with fail
  refine (HFEW.out w1 HK1.out).mono ?_
  rintro e w2 ⟨rfl, rfl⟩
  cases fw with
  | false =>
    go_wp2
    go_ret
    exact ⟨rfl, HK1.out⟩
  | true =>
    have HOK := Lib.hid (HFO.out HFW.out.symm)
    go_wp2_with fail
    refine (HN.out w1 HK1.out).mono ?_
    intro e w2 hnew
    cases r with
    | none =>
      obtain ⟨rfl, k2⟩ := hnew.1 rfl
      have HK2 := Lib.hid (HK1.out.trans k2)
      clear hnew k2
      go_wp2_with fail
      refine (HRN.out w2 HK2.out).mono ?_
      intro e w3 hrn
      obtain ⟨rfl, k3⟩ := hrn.1 rfl
      have HK3 := Lib.hid (HK2.out.trans k3)
      clear hrn k3
      go_wp2
      go_ret
      exact ⟨rfl, HK3.out⟩
    | some D =>
      obtain ⟨db, mb, L, rfl, h2, k2⟩ := hnew.2 _ rfl
      have HK2 := Lib.hid (HK1.out.trans k2)
      have HD2 := Lib.hid h2
      clear hnew k2 h2
      go_wp2_with fail
      refine (HRN.out w2 HK2.out).mono ?_
      intro e w3 hrn
      obtain ⟨rb, ax, cx, LR, rfl, r3, k3, hrb, hft⟩ := hrn.2 _ rfl
      have hH : Half W w3 db mb L rb ax cx LR D D := ⟨(HD2.out.kept k3 (fun _ _ x => x)).down HK1.out.size, r3, (fun k a b => by
        have h4 := (HD2.out.lt a)
        have h5 := HK1.out.size
        rcases hft k b with x | x
        · omega
        · have := HOLD.out k x
          omega), Nat.le_trans HK2.out.size hrb, HK2.out.trans k3⟩
      have HH := Lib.hid hH
      have HCAP := Lib.hid (newD_cap HR.out.symm)
      have HSM := Lib.hid (same_any W db mb L rb ax cx LR D w3 hH)
      clear hrn r3 k3 hrb hft hH
      go_wp2_with fail
      refine HSM.out.mono ?_
      rintro e w4 ⟨rfl, k4⟩
      have HH4 := Lib.hid (HH.out.on k4)
      clear k4
      go_wp2
      go_loopg [9] l.length (fun g s9 wr => ∃ i : Nat, i ≤ l.length ∧ g = l.length - i ∧ s9 = .int .i64 (i : Int) ∧ ∃ Lx ao cp LR D, Half W wr db mb Lx rb ao cp LR D D ∧ D.cap = cap)
      case atStart => exact ⟨0, Nat.zero_le _, rfl, rfl, _, _, _, _, _, HH4.out, HCAP.out⟩
      case round =>
        obtain ⟨i, hil, rfl, rfl, Lx, ao, cp, LRx, Dx, hH, hc⟩ := hrel
        by_cases hd : i < l.length
        · obtain ⟨g, o, hla, hrec⟩ := (HL.out.at_.kept hH.k) (by omega)
          subst hla
          have hi := List.getElem?_eq_getElem hd
          have hmem : l[i] ∈ l := List.getElem_mem hd
          obtain ⟨x, hx⟩ : ∃ x, x = l[i] := ⟨_, rfl⟩
          rw [← hx] at hi hmem
          have c0 := hrec i x hi 0 (.int .i64 x.kind) rfl
          have c1 := hrec i x hi 1 (.string x.A) rfl
          have c2 := hrec i x hi 2 (.string x.B) rfl
          have c3 := hrec i x hi 3 (.int .i64 x.N) rfl
          have c4 := hrec i x hi 4 (.int .i64 x.code) rfl
          have c5 := hrec i x hi 5 (.slice x.ka x.keep.length x.kc) rfl
          rw [Nat.add_zero] at c0
          have hdi : (i : Int) < (l.length : Int) := by omega
          have wi : IntKind.i64.wrap ((i : Int) + 1) = ((i + 1 : Nat) : Int) := by rw [IntWalk.i64_in _ ⟨by omega, by omega⟩]; omega
          have HD := Lib.hid hd
          have HDO := Lib.hid (do_any W db mb Lx rb ao cp LRx Dx Dx x wr hH (HOK.out.2 x hmem))
          have HCX := Lib.hid ((act_cap Dx x).trans hc)
          obtain ⟨R, hR⟩ : ∃ R, R = actD Dx x := ⟨_, rfl⟩
          rw [← hR] at HDO HCX
          clear hrec hi hmem hx hd hH hc hR
          unfold Ac.box at HDO
          obtain ⟨xk, xA, xB, xN, xz, xka, xkc, xkeep⟩ := x
          obtain ⟨xkn, hxkn⟩ : ∃ n, n = xkeep.length := ⟨_, rfl⟩
          dsimp only at c0 c1 c2 c3 c4 c5 HDO
          rw [← hxkn] at c5 HDO
          clear hxkn
          go_wp2_with fail
          refine HDO.out.mono ?_
          rintro e w5 ⟨rfl, L5, ao5, cp5, LR5, H5⟩
          rw [beq_self_eq_true]
          have HS5 := Lib.hid (same_any W db mb L5 rb ao5 cp5 LR5 R.1 w5 H5)
          have HH5 := Lib.hid H5
          clear H5 c0 c1 c2 c3 c4 c5
          go_wp2_with fail
          refine HS5.out.mono ?_
          rintro e w6 ⟨rfl, k6⟩
          have HH6 := Lib.hid (HH5.out.on k6)
          have HU := Lib.hid (dUsed_any W.heap.size db mb L5 R.1 w6 HH6.out.d)
          have hule : usedA R.1 ≤ cap := by rw [← HCX.out]; exact usedA_le HH6.out.d.ok
          obtain ⟨u, hu⟩ : ∃ u, u = usedA R.1 := ⟨_, rfl⟩
          rw [← hu] at HU hule
          have hul : ¬ cap < u := by omega
          have hul' : decide (cap < u) = false := decide_eq_false hul
          clear k6 hu
          go_wp2_with fail
          refine HU.out.mono ?_
          rintro e w7 ⟨rfl, rfl⟩
          go_wp2
          go_roundg (l.length - (i + 1))
          case measure => have := HD.out; omega
          case rel => exact ⟨i + 1, HD.out, rfl, rfl, _, _, _, _, _, HH6.out, HCX.out⟩
        · have hdi : ¬ (i : Int) < (l.length : Int) := by omega
          have hdi' : decide (i < l.length) = false := decide_eq_false hd
          have HKF := Lib.hid hH.k
          clear hH hc
          go_wp2
          go_ret
          exact ⟨rfl, HKF.out⟩
end Go.Proofs.Ytdhfalcjohfdkaa
