/-
  The contract of the reference's Arm.
-/
import Derived.Test.YtbknpfngboioeaaDrA
namespace Go.Proofs.Ytbknpfngboioeaa
open Go.RowKit

theorem RDx.frz {w : World} {F : Nat → Prop} {a n : Nat} {S : Dsk} {r1 r2 c1 c2 m c : Nat} {A : Option Addr} {V1 V2 : Nat → Value} (h : RDx w F a n S r1 r2 c1 c2 A m c V1 V2) : w.heap[a]? = some (.cells #[.slice (some ⟨r1, 0, none⟩) n c1, .slice (some ⟨r2, 0, none⟩) n c2, .slice A m c, .int .i64 S.cnt, .bool S.off] 89 (0, 0)) := h.cells
/-- Other faults, and the count from 0 again. -/
theorem RDx.arm {w w' : World} {F : Nat → Prop} {a n : Nat} {S : Dsk} {r1 r2 c1 c2 m c m' c' : Nat} {A A' : Option Addr} {V1 V2 : Nat → Value} (h : RDx w F a n S r1 r2 c1 c2 A m c V1 V2)
    (hf : Frm (fun b => b = a) w w') (fs : List (Int × Int)) (hfl : FltAt w F A' m' fs) (hm : m' ≤ 64)
    (hc : w'.heap[a]? = some (.cells #[.slice (some ⟨r1, 0, none⟩) n c1, .slice (some ⟨r2, 0, none⟩) n c2, .slice A' m' c', .int .i64 0, .bool S.off] 89 (0, 0))) : RD w' F a n (S.armed fs) := by
  have hk : ∀ (b : Nat) (cs : Array Value) (t : TypeId) (f : Nat × Nat), t ≠ 89 → w.heap[b]? = some (.cells cs t f) → w'.heap[b]? = some (.cells cs t f) := fun b cs t f ht ho => hf.obj ho (by
    rintro rfl
    rw [h.cells] at ho
    injection ho with ho
    injection ho with _ ho _
    exact ht ho.symm)
  have hr : ∀ {r V}, Rows32 w r n V → Rows32 w' r n V := fun ⟨cur, hr, hc⟩ => ⟨cur, hk _ _ _ _ (by decide) hr, hc⟩
  exact ⟨r1, r2, c1, c2, A', m', c', V1, V2, h.ok.armed fs, hc, hr h.row1, hr h.row2, h.ne, fun i hi => (h.v1 i hi).keep fun b cs _ => hk b cs _ _ (by decide), fun i hi => (h.v2 i hi).keep fun b cs _ => hk b cs _ _ (by decide), ⟨hfl.1, fun h0 => by obtain ⟨b, cur, e, hb, hcc, r⟩ := hfl.2 h0; exact ⟨b, cur, e, hb, hk _ _ _ _ (by decide) hcc, r⟩⟩, hm, h.fa, h.f1, h.f2, fun k hk' => by have := h.lt k hk'; have := hf.size; omega⟩

/-- Append of pairs to an empty slice of faults. -/
theorem wpList_app_flt {P : Program} {w0 : World} (w : World) {F : Nat → Prop} {ops : Array Oper} {rest : List Oper} {o : Oper} {a : Act} {Q : Exit → Act → World → Prop} (hgd : o.guard = none) (s x : Operand) (t : TypeId)
    (ho : o.op = .call { callee := .builtin .append, args := #[s, x], argTypes := #[t, t] })
    (base : Nat) (e : TypeId) (i : TypeInfo) (z : Value) (ht : P.underlying t = some (.slice e)) (hi : P.info? e = some i) (hz : i.zero = some z)
    (hsize : i.size = 2) (hby : i.bytes = 16) (hzs : z.cells.size = 2)
    (v : Value) (hs : a.eval s = v) (hown : w.ownsRow base e 2 v 0 [])
    (A : Option Addr) (m c : Nat) (ps : List (Int × Int)) (hx : a.eval x = .slice A m c) (hA : A = none → c = 0) (hP : PairsF F w A m ps) (hm : m ≤ 1000000) (hb : Below base w0 w) (hbase : base ≤ w0.heap.size)
    (h : ∀ v' w', w'.ownsRow base e 2 v' m (pairCells ps) → Below base w0 w' → wpList P ops Q rest (a.put o.dst v') w') : wpList P ops Q (o :: rest) a w := by
  have hbw : base ≤ w.heap.size := by have := hb.size; omega
  match A, hx, hA, hP with
  | none, hx, hA, hP =>
    obtain ⟨rfl, rfl⟩ := pairs_none hP
    obtain rfl := hA rfl
    refine wpList_append_own_none hgd s x t ho base e i 2 ht hi v 0 [] hs hown hx ?_
    exact h v w hown hb
  | some ad, hx, hA, hP =>
    refine wpList_append_own (w := w) hgd s x t ho base e i z 2 16 ht hi hz hsize hby hzs (by decide) v 0 [] hs hown ad m c (pairCells ps) hx (by rw [pairCells_length, hP.1]) (pairs_cells hP ad rfl) (pairCells_one ps) (by unfold maxLen; omega) (by omega) hbw ?_
    intro v' w' hown' hgrow _
    rw [Nat.zero_add, List.nil_append] at hown'
    exact h v' w' hown' (owns_below hown hb hbw hgrow)

set_option maxRecDepth 20000 in
set_option maxHeartbeats 3200000 in
theorem rarm_any {w : World} {F : Nat → Prop} {a n : Nat} {S : Dsk} (h : RD w F a n S) (A : Option Addr) (m c : Nat) (ps : List (Int × Int)) (hP : PairsF F w A m ps) (hm : m ≤ 1000000) (hA : A = none → c = 0) :
    Calls Try.prog 20 #[.pointer (some ⟨a, 0, none⟩), .slice A m c] w fun e w' => e = .returned (.int .i64 (if armOk ps then 0 else 1)) ∧ RD w' (fun k => F k ∨ newF w w' k) a n (if armOk ps then S.armed ps else S) ∧ Frm F w w' := by
  have hv := rvalid_any A m c ps w hP hm
  cases hok : armOk ps with
  | false =>
    rw [hok] at hv
    have H := Lib.hid h
    clear h hP hm hok
    go_enter Try.func20, Try.ntmps20
    go_wp2_with (go_at_call 61; refine hv.mono ?_; rintro e w1 ⟨rfl, rfl⟩)
    go_ret
    exact ⟨by simp, by simpa using H.out.wide (Frm.refl F w), Frm.refl _ _⟩
  | true =>
    rw [hok] at hv
    have H := Lib.hid h
    have HP := Lib.hid hP
    have HM := Lib.hid hm
    have h64 : Hid (m ≤ 64) := by
      show _ ≤ _
      unfold armOk at hok
      simp at hok
      rw [← hP.1]
      exact hok.1
    obtain ⟨i5, hi5, hz0, hz1, hz2⟩ := info_parts infoFault
    have hown : (w.alloc (.cells #[] 70)).ownsRow w.heap.size 70 2 (.slice (some ⟨w.heap.size, 0, none⟩) 0 0) 0 [] :=
      ⟨rfl, .inr ⟨w.heap.size, 0, #[], rfl, Nat.le_refl _, by show (w.heap.push _)[w.heap.size]? = _; simp, Nat.le_refl _, Nat.zero_le _, rfl, rfl⟩⟩
    have hb := Lib.hid ((Below.refl w.heap.size w).alloc (Nat.le_refl _) (.cells #[] 70))
    have hP' := Lib.hid (hP.keep (Frm.of_below hb.out) fun b h => .inl h)
    clear h hP hm hok
    go_enter Try.func20, Try.ntmps20
    go_wp2_with (first
      | (go_at_call 61; refine hv.mono ?_; rintro e w1 ⟨rfl, rfl⟩)
      | (at_builtin; refine wpList_app_flt _ rfl _ _ 33 (by exact rfl) w.heap.size 70 i5 _ tyFaults hi5 hz0 hz1 hz2 rfl _ (by exact rfl) hown A m c ps (by exact rfl) hA hP'.out HM.out hb.out (Nat.le_refl _) ?_; intro v2 w2 hown2 hb2; obtain ⟨A2, cc2, rfl, hfl⟩ := flt_of_own hown2 HP.out.1; have hx := H.out.below hb2; obtain ⟨r1, r2, c1, c2, A1, m1, cc1, V1, V2, hx⟩ := hx; have k2 := hx.e2; have k3 := hx.e3; have g2 := hx.fr 2; have g3 := hx.fr 3; have HX := Lib.hid hx; have HB2 := Lib.hid hb2; have HFL := Lib.hid hfl; clear hx hb2 hfl hown2 hown))
    go_ret
    have h2 := HX.out.more (G := fun k => F k ∨ newF w w2 k) (fun b hb => .inl hb) fun b hb => hb.elim (HX.out.lt b) fun h => h.2
    have hfa : Frm (fun b => b = a) w2 ((w2.setCell ⟨a, 2, none⟩ (.slice A2 m cc2)).setCell ⟨a, 3, none⟩ (.int .i64 0)) := ((Frm.refl (fun b => b = a) w2).setCell (p := ⟨a, 2, none⟩) (.inl rfl) _).setCell (p := ⟨a, 3, none⟩) (.inl rfl) _
    have hsz : ((w2.setCell ⟨a, 2, none⟩ (.slice A2 m cc2)).setCell ⟨a, 3, none⟩ (.int .i64 0)).heap.size = w2.heap.size := by simp [World.setCell]
    refine ⟨by simp, ?_, (Frm.of_below HB2.out).trans hfa fun b e => .inl (e ▸ HX.out.fa)⟩
    have := set_field (j := 3) (v := .int .i64 0) (set_field (j := 2) (v := .slice A2 m cc2) h2.cells)
    have h3 := h2.arm hfa ps (flt_wide F HFL.out) h64.out (A' := A2) (c' := cc2) (by simpa using this)
    unfold newF at h3 ⊢
    rw [hsz]
    simpa using h3

end Go.Proofs.Ytbknpfngboioeaa
