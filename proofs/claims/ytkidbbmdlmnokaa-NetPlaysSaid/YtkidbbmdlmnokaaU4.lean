/- Layer 23: Send (written by tools/gen_XU4.py). -/
import Derived.Test.YtkidbbmdlmnokaaU3
import Derived.Test.YtkidbbmdlmnokaaG2
namespace Go.Proofs.Ytkidbbmdlmnokaa
open Go.RowKit
attribute [local go_sem ↓] Go.wp_at_zero Go.wp_at_succ

theorem Try.infoMsg : (Try.prog.info? 29).map (fun i => (i.zero, i.size, i.bytes)) = some (some (.agg #[.bool false, .int .i64 0, .slice none 0 0]), 3, 40) := by kernel_rfl
theorem step_mineM {ops : Array Oper} {o : Oper} {a : Act} {K : Act → World → Prop} {Q : Exit → Act → World → Prop} {E : Prop} {w : World} (hgd : o.guard = none) (s x : Operand)
    (ho : o.op = .call { callee := .builtin .append, args := #[s, x], argTypes := #[26, 26] })
    (W : World) (v : Value) (L : List Mg) (hv : a.eval s = v) (hm : MineG cellsM 3 29 W w v L)
    (y : Value) (M : List Mg) (m : Nat) (hmm : M.length = m) (hy : a.eval x = y) (hs : Src Try.prog 3 26 y m (flatG cellsM M) w)
    (hl : L.length + m ≤ 1000000000)
    (h : ∀ v' w', MineG cellsM 3 29 W w' v' (L ++ M) → Kept (fun k => v.ownBlock = some k) w w' → (v'.ownBlock = v.ownBlock ∨ v'.ownBlock = some w.heap.size) → K (a.put o.dst v') w') :
    if Region.wanted o (yielded ops a.tmps) = true then Oper.wp Try.prog o a w K Q else E := by
  obtain ⟨iI, hiI, hzI0, hzI1, hzI2⟩ := info_parts Try.infoMsg
  refine step_append_src w hgd s x 26 26 ho W.heap.size 29 iI _ 3 40 Try.underlying26 hiI hzI0 hzI1 hzI2 rfl v L.length (flatG cellsM L) hv hm.own y m (flatG cellsM M) hy hs (by unfold maxLen; omega) (by omega) hm.kept.size ?_
  intro v' w' hown hg _ hat
  refine h v' w' ⟨by rw [List.length_append, flatG_append, hmm]; exact hown, hm.kept.grown hg (fun k e hlt => ?_)⟩ ((Kept.refl (fun k => v.ownBlock = some k) w).grown hg (fun k e _ => e)) hat
  have := (ownsRow_lt hm.own e).2; omega
theorem wpList_mineM {ops : Array Oper} {rest : List Oper} {o : Oper} {a : Act} {Q : Exit → Act → World → Prop} {w : World} (hgd : o.guard = none) (s x : Operand)
    (ho : o.op = .call { callee := .builtin .append, args := #[s, x], argTypes := #[26, 26] })
    (W : World) (v : Value) (L : List Mg) (hv : a.eval s = v) (hm : MineG cellsM 3 29 W w v L)
    (y : Value) (M : List Mg) (m : Nat) (hmm : M.length = m) (hy : a.eval x = y) (hs : Src Try.prog 3 26 y m (flatG cellsM M) w)
    (hl : L.length + m ≤ 1000000000)
    (h : ∀ v' w', MineG cellsM 3 29 W w' v' (L ++ M) → Kept (fun k => v.ownBlock = some k) w w' → (v'.ownBlock = v.ownBlock ∨ v'.ownBlock = some w.heap.size) → wpList Try.prog ops Q rest (a.put o.dst v') w') : wpList Try.prog ops Q (o :: rest) a w := by
  obtain ⟨iI, hiI, hzI0, hzI1, hzI2⟩ := info_parts Try.infoMsg
  exact wpList_mineG hgd s x ho Try.underlying26 hiI hzI0 hzI1 hzI2 rfl W v L hv hm y M m hmm hy hs hl (by omega) h
/-- Bytes stay beside blocks of another kind. -/
theorem At.beside {S : Nat → Prop} {w w' : World} {m : Mg} (h : m.At w) (ht : ∀ k, m.v.ownBlock = some k → ∃ cs fr, w.heap[k]? = some (.cells cs 5 fr)) (k : Kept S w w') (hS : ∀ j, S j → ∃ cs fr T, w.heap[j]? = some (.cells cs T fr) ∧ T ≠ 5) :
    m.At w' ∧ ∀ k, m.v.ownBlock = some k → ∃ cs fr, w'.heap[k]? = some (.cells cs 5 fr) := by
  have hn : ∀ j, m.v.ownBlock = some j → ¬ S j := by
    intro j e hj
    obtain ⟨cs, fr, h1⟩ := ht j e
    obtain ⟨cs', fr', T, h2, h3⟩ := hS j hj
    rw [h1] at h2
    injection h2 with h2
    injection h2 with _ h2
    exact h3 h2.symm
  refine ⟨SlAt.kept h k hn, fun j e => ?_⟩
  obtain ⟨cs, fr, h1⟩ := ht j e
  exact ⟨cs, fr, k.same h1 (hn j e)⟩
theorem At.kept2 {w w' : World} {m : Mg} (ht : ∀ k, m.v.ownBlock = some k → ∃ cs fr, w.heap[k]? = some (.cells cs 5 fr)) (k : Kept (fun _ => False) w w') : ∀ k, m.v.ownBlock = some k → ∃ cs fr, w'.heap[k]? = some (.cells cs 5 fr) := fun j e => by
  obtain ⟨cs, fr, h1⟩ := ht j e
  exact ⟨cs, fr, k.same h1 (fun x => x)⟩
/-- The row has another state, then the net tells it. -/
theorem NS.turned {W w w8 : World} {nb : Nat} {L M : List Mg} {ao a8 : Option Addr} {cp c8 : Nat} (h : NS W w nb L ao cp) (hm8 : MineG cellsM 3 29 W w8 (.slice a8 M.length c8) M)
    (hk8 : Kept (fun k => (Value.slice ao L.length cp).ownBlock = some k) w w8) (hM : ∀ m ∈ M, m.At w ∧ (∀ k, m.v.ownBlock = some k → ∃ cs fr, w.heap[k]? = some (.cells cs 5 fr)) ∧ (∀ x ∈ m.b, 0 ≤ x ∧ x < 256) ∧ rightB m.t = true) :
    w8.cell? ⟨nb, 0, none⟩ = some (.slice ao L.length cp) ∧ w8.frozen? ⟨nb, 0, none⟩ = false ∧ NS W (w8.setCell ⟨nb, 0, none⟩ (.slice a8 M.length c8)) nb M a8 c8 := by
  have hb : w8.heap[nb]? = some (.cells #[.slice ao L.length cp] 100 (0, 0)) := hk8.same h.box (own_ne_box h.row.own h.box (by decide))
  have k2 : Kept (fun k => k = nb) w8 (w8.setCell ⟨nb, 0, none⟩ (.slice a8 M.length c8)) := (Kept.refl (fun k => k = nb) w8).setCell (p := ⟨nb, 0, none⟩) (fun _ => rfl) _
  have hd : ∀ m ∈ M, m.At (w8.setCell ⟨nb, 0, none⟩ (.slice a8 M.length c8)) ∧ ∀ k, m.v.ownBlock = some k → ∃ cs fr, (w8.setCell ⟨nb, 0, none⟩ (.slice a8 M.length c8)).heap[k]? = some (.cells cs 5 fr) := by
    intro m hm
    obtain ⟨d1, d2, _⟩ := hM m hm
    obtain ⟨d3, d4⟩ := At.beside d1 d2 hk8 (fun j e => by
      obtain ⟨cur, hc⟩ := ownsRow_block h.row.own e
      exact ⟨_, _, _, hc, by decide⟩)
    exact At.beside d3 d4 k2 (fun j e => by subst e; exact ⟨_, _, _, hb, by decide⟩)
  refine ⟨cell_of_one hb, free_of_one hb, one_setCell hb, hm8.keptS k2 (fun j e1 e2 => own_ne_box hm8.own hb (by decide) (e2 ▸ e1)) (fun j e => by subst e; exact h.base), fun m hm => (hd m hm).1, fun m hm => (hd m hm).2, fun m hm => (hM m hm).2.2, h.base⟩
theorem NS.sent {W w w8 : World} {nb : Nat} {L : List Mg} {ao a8 : Option Addr} {cp c8 : Nat} (h : NS W w nb L ao cp) (m : Mg) (o : Obj) (hm8 : MineG cellsM 3 29 W w8 (.slice a8 (L ++ [m]).length c8) (L ++ [m]))
    (hk8 : Kept (fun k => (Value.slice ao L.length cp).ownBlock = some k) (w.alloc o) w8) (hat : m.At w) (htyp : ∀ k, m.v.ownBlock = some k → ∃ cs fr, w.heap[k]? = some (.cells cs 5 fr)) (hby : (∀ x ∈ m.b, 0 ≤ x ∧ x < 256) ∧ rightB m.t = true) :
    w8.cell? ⟨nb, 0, none⟩ = some (.slice ao L.length cp) ∧ w8.frozen? ⟨nb, 0, none⟩ = false ∧ NS W (w8.setCell ⟨nb, 0, none⟩ (.slice a8 (L ++ [m]).length c8)) nb (L ++ [m]) a8 c8 := by
  have ka : Kept (fun _ => False) w (w.alloc o) := (Kept.refl _ _).alloc _
  refine NS.turned (h.kept ka) hm8 hk8 (fun m' hm' => ?_)
  rcases List.mem_append.1 hm' with h1 | h1
  · exact ⟨(h.data m' h1).kept ka, At.kept2 (h.typ m' h1) ka, h.byte m' h1⟩
  · rw [List.mem_singleton] at h1
    subst h1
    exact ⟨hat.kept ka, At.kept2 htyp ka, hby⟩
def sendB (L : List Mg) (t : Tl) : Bool := decide (L.length < 4096) && rightB t
/-- What Send leaves. -/
def SendTo (W w : World) (nb : Nat) (L : List Mg) (ao : Option Addr) (cp : Nat) (t : Tl) (e : Ending) (w' : World) : Prop :=
  e = .returned (.bool (sendB L t)) ∧ (sendB L t = false → Kept (fun _ => False) w w') ∧
  (sendB L t = true → ∃ m ao' cp', m.t = t ∧ NS W w' nb (L ++ [m]) ao' cp' ∧ (∀ k, m.v.ownBlock = some k → w.heap.size ≤ k) ∧ Kept (fun k => k = nb ∨ (Value.slice ao L.length cp).ownBlock = some k) w w' ∧
    ((Value.slice ao' (L ++ [m]).length cp').ownBlock = (Value.slice ao L.length cp).ownBlock ∨ ∃ k, (Value.slice ao' (L ++ [m]).length cp').ownBlock = some k ∧ w.heap.size ≤ k))
set_option maxHeartbeats 4000000 in
set_option maxRecDepth 100000 in
theorem netSend_any (W : World) (nb : Nat) (L : List Mg) (ao : Option Addr) (cp : Nat) (ack : Bool) (hv : Int) (a : Option Addr) (n c : Nat) (b : List Int) (hbn : b.length = n) (w : World) (h : NS W w nb L ao cp) (hs : SlAt w (.slice a n c) (u8s b)) (hl : n ≤ 1000000) (hL : L.length ≤ 1000000) (hby : ∀ x ∈ b, 0 ≤ x ∧ x < 256) :
    Calls Try.prog 15 #[.pointer (some ⟨nb, 0, none⟩), .agg #[.bool ack, .int .i64 hv, .slice a n c]] w (SendTo W w nb L ao cp ⟨ack, hv, b⟩) := by
  obtain ⟨wa, hwa⟩ : ∃ wa, wa = w.alloc (.cells #[.bool ack, .int .i64 hv, .slice a n c] 29) := ⟨_, rfl⟩
  obtain ⟨q3, hq3⟩ : ∃ q, q = w.heap.size := ⟨_, rfl⟩
  have ka : Kept (fun _ => False) w wa := by rw [hwa]; exact (Kept.refl _ _).alloc _
  have HB1 : Hid (MB wa q3 ack hv (.slice a n c)) := Lib.hid (by rw [hwa, hq3]; exact heap_alloc_new w _)
  have HN0 := Lib.hid h
  have HNA := Lib.hid (h.kept ka)
  have HSA := Lib.hid (hs.kept ka (fun _ _ x => x))
  have HK := Lib.hid ka
  have HW := Lib.hid (And.intro hwa hq3)
  have HRT := Lib.hid (fun w => right_any ack hv a c b w)
  have HBN := Lib.hid hbn
  have HBY := Lib.hid hby
  have HLL := Lib.hid hL
  have HLN := Lib.hid hl
  rw [hbn] at HRT
  clear hwa hq3 ka h hs hbn hby hl hL
  by_cases h4 : 4096 ≤ L.length
  · have HX : Hid (sendB L ⟨ack, hv, b⟩ = false) := Lib.hid (by unfold sendB; rw [decide_eq_false (by omega)]; rfl)
    have cN := HNA.out.cell
    have q1 : (4096 : Int) ≤ (L.length : Int) := by omega
    have q1' : decide (4096 ≤ L.length) = true := decide_eq_true h4
    clear h4
    go_enter Try.func15, Try.ntmps15
    go_upto_region 1 with fail
    rw [← HW.out.1, ← HW.out.2]
    go_wp2
    go_ret
    exact ⟨by rw [HX.out]; rfl, fun _ => HK.out, fun e => by rw [HX.out] at e; cases e⟩
  have cN := HNA.out.cell
  have q1 : ¬ (4096 : Int) ≤ (L.length : Int) := by omega
  have q1' : decide (4096 ≤ L.length) = false := decide_eq_false h4
  obtain ⟨b10, b11, b12⟩ := HB1.out.c
  have HX : Hid (sendB L ⟨ack, hv, b⟩ = rightB ⟨ack, hv, b⟩) := Lib.hid (by unfold sendB; rw [decide_eq_true (by omega)]; rfl)
  obtain ⟨R, hR⟩ : ∃ R, R = rightB ⟨ack, hv, b⟩ := ⟨_, rfl⟩
  rw [← hR] at HRT HX
  have HR := Lib.hid hR
  clear h4 hR
  go_enter Try.func15, Try.ntmps15
  go_upto_region 1 with fail
  rw [← HW.out.1, ← HW.out.2]
  go_wp2_with fail
  refine (HRT.out _).mono ?_
  rintro e w2 ⟨rfl, k2⟩
  have HK2 := Lib.hid (HK.out.trans k2)
  have HN2 := Lib.hid (HNA.out.kept k2)
  have HB2 : Hid (MB w2 q3 ack hv (.slice a n c)) := Lib.hid (k2.same HB1.out (fun x => x))
  have HS2 := Lib.hid (HSA.out.kept k2 (fun _ _ x => x))
  clear k2 b10 b11 b12 cN
  cases R with
  | false =>
    go_wp2
    go_ret
    exact ⟨by rw [HX.out]; rfl, fun _ => HK2.out, fun e => by rw [HX.out] at e; cases e⟩
  | true =>
    have kd : Kept (fun _ => False) w2 w2.drew := (Kept.refl _ w2).drew
    have HND := Lib.hid (HN2.out.kept kd)
    have HBD : Hid (MB w2.drew q3 ack hv (.slice a n c)) := Lib.hid (kd.same HB2.out (fun x => x))
    have HKD := Lib.hid (HK2.out.trans kd)
    have HCL := Lib.hid (mclone_any ack hv a n c b HBN.out w2.drew (HS2.out.kept kd (fun _ _ x => x)) (by have := HLN.out; omega))
    have HBR : Hid ((∀ x ∈ (⟨ack, hv, a, c, b⟩ : Mg).b, 0 ≤ x ∧ x < 256) ∧ rightB (⟨ack, hv, a, c, b⟩ : Mg).t = true) := Lib.hid ⟨HBY.out, HR.out.symm⟩
    have HSS : Hid ((fun w' => w'.cell? ⟨nb, 0, none⟩ = some (.slice ao L.length cp) ∧ (w'.cell? ⟨q3, 0, none⟩ = some (.bool ack) ∧ w'.cell? ⟨q3, 1, none⟩ = some (.int .i64 hv) ∧ w'.cell? ⟨q3, 2, none⟩ = some (.slice a n c))) w2.drew) := Lib.hid ⟨HND.out.cell, HBD.out.c⟩
    clear kd
    go_upto_region 3 with fail
    refine AnyBut.start (S := fun w' => w'.cell? ⟨nb, 0, none⟩ = some (.slice ao L.length cp) ∧ (w'.cell? ⟨q3, 0, none⟩ = some (.bool ack) ∧ w'.cell? ⟨q3, 1, none⟩ = some (.int .i64 hv) ∧ w'.cell? ⟨q3, 2, none⟩ = some (.slice a n c))) (k := 11) (by kernel_rfl) ?_
    refine AnyBut.take (i := 0) (v := ?v1) rfl (by kernel_rfl) (by kernel_rfl) (by kernel_rfl) (by kernel_rfl) (fun _ _ _ h => h) (HSS.out) (Or.inl ⟨by kernel_rfl, ?hy1⟩) ?r1
    case hy1 =>
      intro w hSw
      try dsimp only at hSw
      go_simp
      try with_reducible rfl
    try simp only [Act.put, List.getElem_toArray, List.getElem_cons_zero, List.setIfInBounds_toArray, List.set_cons_zero, List.set_cons_succ]
    refine AnyBut.take (i := 1) (v := ?v2) rfl (by kernel_rfl) (by kernel_rfl) (by kernel_rfl) (by kernel_rfl) (fun _ _ _ h => h) (HSS.out) (Or.inl ⟨by kernel_rfl, ?hy2⟩) ?r2
    case hy2 =>
      intro w hSw
      try dsimp only at hSw
      go_simp
      try with_reducible rfl
    try simp only [Act.put, List.getElem_toArray, List.getElem_cons_succ, List.getElem_cons_zero, List.setIfInBounds_toArray, List.set_cons_zero, List.set_cons_succ]
    refine AnyBut.take (i := 2) (v := ?v3) rfl (by kernel_rfl) (by kernel_rfl) (by kernel_rfl) (by kernel_rfl) (fun _ _ _ h => h) (HSS.out) (Or.inl ⟨by kernel_rfl, ?hy3⟩) ?r3
    case hy3 =>
      intro w hSw
      try dsimp only at hSw
      go_simp
      try with_reducible rfl
    try simp only [Act.put, List.getElem_toArray, List.getElem_cons_succ, List.getElem_cons_zero, List.setIfInBounds_toArray, List.set_cons_zero, List.set_cons_succ]
    refine AnyBut.take (i := 3) (v := ?v4) rfl (by kernel_rfl) (by kernel_rfl) (by kernel_rfl) (by kernel_rfl) (fun _ _ _ h => h) (HSS.out) (Or.inl ⟨by kernel_rfl, ?hy4⟩) ?r4
    case hy4 =>
      intro w hSw
      try dsimp only at hSw
      go_simp
      try with_reducible rfl
    try simp only [Act.put, List.getElem_toArray, List.getElem_cons_succ, List.getElem_cons_zero, List.setIfInBounds_toArray, List.set_cons_zero, List.set_cons_succ]
    refine AnyBut.take (i := 4) (v := ?v5) rfl (by kernel_rfl) (by kernel_rfl) (by kernel_rfl) (by kernel_rfl) (fun _ _ _ h => h) (HSS.out) (Or.inl ⟨by kernel_rfl, ?hy5⟩) ?r5
    case hy5 =>
      intro w hSw
      try dsimp only at hSw
      go_simp
      try with_reducible rfl
    try simp only [Act.put, List.getElem_toArray, List.getElem_cons_succ, List.getElem_cons_zero, List.setIfInBounds_toArray, List.set_cons_zero, List.set_cons_succ]
    refine AnyBut.take (i := 5) (v := ?v6) rfl (by kernel_rfl) (by kernel_rfl) (by kernel_rfl) (by kernel_rfl) (fun _ _ _ h => h) (HSS.out) (Or.inl ⟨by kernel_rfl, ?hy6⟩) ?r6
    case hy6 =>
      intro w hSw
      try dsimp only at hSw
      go_simp
      try with_reducible rfl
    try simp only [Act.put, List.getElem_toArray, List.getElem_cons_succ, List.getElem_cons_zero, List.setIfInBounds_toArray, List.set_cons_zero, List.set_cons_succ]
    refine AnyBut.one (i := 6) (by kernel_rfl) rfl (fun K hK => ?_)
    go_simp
    go_wp2_with fail
    refine HCL.out.mono ?_
    rintro e w9 ⟨a', c', rfl, hm⟩
    have HM9 := Lib.hid hm
    have HN9 := Lib.hid (HND.out.kept hm.kept)
    have HB9 : Hid (MB w9 q3 ack hv (.slice a n c)) := Lib.hid (hm.kept.same HBD.out (fun x => x))
    have HSS9 : Hid ((fun w' => w'.cell? ⟨nb, 0, none⟩ = some (.slice ao L.length cp) ∧ (w'.cell? ⟨q3, 0, none⟩ = some (.bool ack) ∧ w'.cell? ⟨q3, 1, none⟩ = some (.int .i64 hv) ∧ w'.cell? ⟨q3, 2, none⟩ = some (.slice a n c))) w9) := Lib.hid ⟨HN9.out.cell, HB9.out.c⟩
    clear hm
    go_wp2
    refine hK.out _ _ (HSS9.out) ?_
    clear hK K
    try simp only [Act.put, List.getElem_toArray, List.getElem_cons_succ, List.getElem_cons_zero, List.setIfInBounds_toArray, List.set_cons_zero, List.set_cons_succ]
    refine AnyBut.one (i := 7) (by kernel_rfl) rfl (fun K hK => ?_)
    go_simp
    have HN7 : Hid (NS W (w9.alloc (.cells #[.bool ack, .int .i64 hv, .slice a' n c'] 29)) nb L ao cp) := Lib.hid (HN9.out.kept ((Kept.refl _ _).alloc _))
    have HSS7 : Hid ((fun w' => w'.cell? ⟨nb, 0, none⟩ = some (.slice ao L.length cp) ∧ (w'.cell? ⟨q3, 0, none⟩ = some (.bool ack) ∧ w'.cell? ⟨q3, 1, none⟩ = some (.int .i64 hv) ∧ w'.cell? ⟨q3, 2, none⟩ = some (.slice a n c))) (w9.alloc (.cells #[.bool ack, .int .i64 hv, .slice a' n c'] 29))) := Lib.hid ⟨HN7.out.cell, (show MB _ q3 ack hv (.slice a n c) from ((Kept.refl (fun _ => False) w9).alloc (.cells #[.bool ack, .int .i64 hv, .slice a' n c'] 29)).same HB9.out (fun x => x)).c⟩
    have HSRC : Hid (Src Try.prog 3 26 (.slice (some ⟨w9.heap.size, 0, none⟩) 1 1) 1 (flatG cellsM [⟨ack, hv, a', c', b⟩]) (w9.alloc (.cells #[.bool ack, .int .i64 hv, .slice a' n c'] 29))) := Lib.hid (by have := src_oneG (P := Try.prog) cfM Try.underlying26 w9 (⟨ack, hv, a', c', b⟩ : Mg); rw [flatG_one']; rw [← HBN.out]; exact this)
    refine hK.out _ _ (HSS7.out) ?_
    clear hK K
    try simp only [Act.put, List.getElem_toArray, List.getElem_cons_succ, List.getElem_cons_zero, List.setIfInBounds_toArray, List.set_cons_zero, List.set_cons_succ]
    refine AnyBut.one (i := 8) (by kernel_rfl) rfl (fun K hK => ?_)
    refine step_mineM (by rfl) (.tmp 20) (.tmp 23) (by rfl) W _ L (by rfl) HN7.out.row _ [⟨ack, hv, a', c', b⟩] 1 rfl (by rfl) HSRC.out (by have := HLL.out; omega) ?_
    intro v8 w8 hm8 hk8 hat8
    obtain ⟨a8, c8, rfl⟩ := hm8.slice
    have hsent := NS.sent HN9.out (⟨ack, hv, a', c', b⟩ : Mg) (.cells #[.bool ack, .int .i64 hv, .slice a' n c'] 29) hm8 hk8 (by unfold Mg.At; dsimp only; rw [HBN.out]; exact HM9.out.at_) (fun k e => by unfold Mg.v at e; dsimp only at e; rw [HBN.out] at e; exact ⟨_, _, (ownsRow_block HM9.out.own e).choose_spec⟩) HBR.out
    have y0 := hsent.1
    have y1 := hsent.2.1
    have HNS := Lib.hid hsent.2.2
    have HAT := Lib.hid hat8
    have HK8 := Lib.hid hk8
    have HB8 : Hid (MB w8 q3 ack hv (.slice a n c)) := Lib.hid (hk8.same (((Kept.refl (fun _ => False) w9).alloc (.cells #[.bool ack, .int .i64 hv, .slice a' n c'] 29)).same HB9.out (fun x => x)) (fun e => by have := (ownsRow_lt HN0.out.row.own e).1; have := HW.out.2; omega))
    have HSS8 : Hid ((fun w' => w'.cell? ⟨nb, 0, none⟩ = some (.slice ao L.length cp) ∧ (w'.cell? ⟨q3, 0, none⟩ = some (.bool ack) ∧ w'.cell? ⟨q3, 1, none⟩ = some (.int .i64 hv) ∧ w'.cell? ⟨q3, 2, none⟩ = some (.slice a n c))) w8) := Lib.hid ⟨y0, HB8.out.c⟩
    clear hm8 hk8 hat8 hsent
    obtain ⟨N, hN⟩ : ∃ N, N = (L ++ [(⟨ack, hv, a', c', b⟩ : Mg)]).length := ⟨_, rfl⟩
    rw [← hN] at HNS ⊢
    have HNN := Lib.hid hN
    clear hN
    refine hK.out _ _ (HSS8.out) ?_
    clear hK K
    try simp only [Act.put, List.getElem_toArray, List.getElem_cons_succ, List.getElem_cons_zero, List.setIfInBounds_toArray, List.set_cons_zero, List.set_cons_succ]
    refine AnyBut.one (i := 9) (by kernel_rfl) rfl (fun K hK => ?_)
    go_simp
    refine hK.out _ _ (HSS8.out) ?_
    clear hK K
    try simp only [Act.put, List.getElem_toArray, List.getElem_cons_succ, List.getElem_cons_zero, List.setIfInBounds_toArray, List.set_cons_zero, List.set_cons_succ]
    refine AnyBut.take (i := 10) (v := ?v7) rfl (by kernel_rfl) (by kernel_rfl) (by kernel_rfl) (by kernel_rfl) (fun _ _ _ h => h) (HSS8.out) (Or.inl ⟨by kernel_rfl, ?hy7⟩) ?r7
    case hy7 =>
      intro w hSw
      try dsimp only at hSw
      go_simp
      try with_reducible rfl
    try simp only [Act.put, List.getElem_toArray, List.getElem_cons_succ, List.getElem_cons_zero, List.setIfInBounds_toArray, List.set_cons_zero, List.set_cons_succ]
    refine AnyBut.last (by kernel_rfl) rfl (by kernel_rfl) (fun K hK => ?_)
    go_simp
    go_wp2
    refine hK.out _ _ ?_
    clear hK K
    try simp only [Act.put, List.getElem_toArray, List.getElem_cons_succ, List.getElem_cons_zero, List.setIfInBounds_toArray, List.set_cons_zero, List.set_cons_succ]
    clear y0 y1
    go_wp2
    go_ret
    refine ⟨by rw [HX.out]; rfl, (fun e => by rw [HX.out] at e; cases e), fun _ => ⟨⟨ack, hv, a', c', b⟩, a8, c8, rfl, HNS.out, ?_, ?_, ?_⟩⟩
    · intro k e
      unfold Mg.v at e
      dsimp only at e
      rw [HBN.out] at e
      have h1 := (ownsRow_lt HM9.out.own e).2
      have h2 := HKD.out.size
      omega
    · have kk : Kept (fun k => k = nb ∨ (Value.slice ao L.length cp).ownBlock = some k) w w8 := (HKD.out.mono (fun _ _ x => x.elim)).trans ((HM9.out.kept.mono (fun _ _ x => x.elim)).trans ((((Kept.refl (fun _ => False) w9).alloc (.cells #[.bool ack, .int .i64 hv, .slice a' n c'] 29)).mono (fun _ _ x => x.elim)).trans (HK8.out.mono (fun _ _ x => Or.inr x))))
      exact kk.setCell (p := ⟨nb, 0, none⟩) (fun _ => Or.inl rfl) _
    · rcases HAT.out with h1 | h1
      · exact .inl h1
      · refine .inr ⟨_, h1, ?_⟩
        have h2 := (HKD.out.trans (HM9.out.kept.trans ((Kept.refl (fun _ => False) w9).alloc (.cells #[.bool ack, .int .i64 hv, .slice a' n c'] 29)))).size
        omega
end Go.Proofs.Ytkidbbmdlmnokaa
