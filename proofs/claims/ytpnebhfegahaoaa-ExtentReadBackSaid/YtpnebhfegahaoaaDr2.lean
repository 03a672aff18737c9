/-
  The reference's disk in memory ('RD').
-/
import Derived.Test.YtpnebhfegahaoaaDkF
import Derived.Test.YtpnebhfegahaoaaDkC
namespace Go.Proofs.Ytpnebhfegahaoaa
open Go.RowKit

/-- A value that leads to 64 bytes in a block of F. -/
def Sl (w : World) (F : Nat → Prop) (v : Value) (xs : List UInt8) : Prop := ∃ g c, v = .slice (some ⟨g, 0, none⟩) 64 c ∧ F g ∧ Own8 w g c 64 xs
theorem Sl.keep {w w' : World} {F : Nat → Prop} {v : Value} {xs : List UInt8} (h : Sl w F v xs) (hk : ∀ b cs, F b → w.heap[b]? = some (.cells cs 5 (0, 0)) → w'.heap[b]? = some (.cells cs 5 (0, 0))) : Sl w' F v xs := by
  obtain ⟨g, c, e, hF, cur, hr, r⟩ := h
  exact ⟨g, c, e, hF, cur, hk g cur hF hr, r⟩
theorem Sl.more {w : World} {F G : Nat → Prop} {v : Value} {xs : List UInt8} (h : Sl w F v xs) (hG : ∀ b, F b → G b) : Sl w G v xs := by
  obtain ⟨g, c, e, hF, r⟩ := h
  exact ⟨g, c, e, hG g hF, r⟩
/-- A cell of the cache. -/
def Cc (w : World) (F : Nat → Prop) (v : Value) : Option (List UInt8) → Prop
  | none => v = .slice none 0 0
  | some xs => Sl w F v xs
theorem Cc.keep {w w' : World} {F : Nat → Prop} {v : Value} {o : Option (List UInt8)} (h : Cc w F v o) (hk : ∀ b cs, F b → w.heap[b]? = some (.cells cs 5 (0, 0)) → w'.heap[b]? = some (.cells cs 5 (0, 0))) : Cc w' F v o := by
  cases o with
  | none => exact h
  | some xs => exact Sl.keep h hk
theorem Cc.more {w : World} {F G : Nat → Prop} {v : Value} {o : Option (List UInt8)} (h : Cc w F v o) (hG : ∀ b, F b → G b) : Cc w G v o := by
  cases o with
  | none => exact h
  | some xs => exact Sl.more h hG

/-- A row of slices whose first ones are known. -/
def Rows32 (w : World) (r n : Nat) (V : Nat → Value) : Prop := ∃ cur : Array Value, w.heap[r]? = some (.cells cur 34 (0, 0)) ∧ ∀ i, i < n → cur[i]? = some (V i)
theorem Rows32.cell {w : World} {r n : Nat} {V : Nat → Value} (h : Rows32 w r n V) {i : Nat} (hi : i < n) : w.cell? ⟨r, i, none⟩ = some (V i) := by
  obtain ⟨cur, hr, hc⟩ := h
  rw [cell_of_row w r i _ _ _ hr, hc i hi]
theorem Rows32.fr {w : World} {r n : Nat} {V : Nat → Value} (h : Rows32 w r n V) (i : Nat) : w.frozen? ⟨r, i, none⟩ = false := by
  obtain ⟨cur, hr, _⟩ := h
  simp [World.frozen?, hr]
theorem Rows32.set {w : World} {r n : Nat} {V : Nat → Value} (h : Rows32 w r n V) {i : Nat} (hi : i < n) (v : Value) : Rows32 (w.setCell ⟨r, i, none⟩ v) r n (upd V i v) := by
  obtain ⟨cur, hr, hc⟩ := h
  refine ⟨cur.setIfInBounds i v, ?_, fun j hj => ?_⟩
  · exact set_field hr
  · have hlt : i < cur.size := (Array.getElem?_eq_some_iff.1 (hc i hi)).1
    by_cases hji : j = i
    · subst hji
      rw [upd_same, Array.getElem?_setIfInBounds_self_of_lt hlt]
    · rw [upd_other _ _ hji, Array.getElem?_setIfInBounds_ne (fun e => hji e.symm), hc j hj]

structure RDx (w : World) (F : Nat → Prop) (a n : Nat) (S : Dsk) (r1 r2 c1 c2 : Nat) (A : Option Addr) (m c : Nat) (V1 V2 : Nat → Value) : Prop where
  ok : S.Ok n
  cells : w.heap[a]? = some (.cells #[.slice (some ⟨r1, 0, none⟩) n c1, .slice (some ⟨r2, 0, none⟩) n c2, .slice A m c, .int .i64 S.cnt, .bool S.off] 90 (0, 0))
  row1 : Rows32 w r1 n V1
  row2 : Rows32 w r2 n V2
  ne : r1 ≠ r2
  v1 : ∀ i, i < n → Sl w F (V1 i) (S.st i)
  v2 : ∀ i, i < n → Cc w F (V2 i) (S.ca i)
  flt : FltAt w F A m S.fs
  m64 : m ≤ 64
  fa : F a
  f1 : F r1
  f2 : F r2
  lt : ∀ k, F k → k < w.heap.size
/-- At block a stands the reference's disk. -/
def RD (w : World) (F : Nat → Prop) (a n : Nat) (S : Dsk) : Prop := ∃ r1 r2 c1 c2 A m c V1 V2, RDx w F a n S r1 r2 c1 c2 A m c V1 V2
section
variable {w w' : World} {F G : Nat → Prop} {a n : Nat} {S : Dsk} {r1 r2 c1 c2 m c : Nat} {A : Option Addr} {V1 V2 : Nat → Value}
theorem Rows32.keep {r : Nat} {V : Nat → Value} (h : Rows32 w r n V) (hk : ∀ o, w.heap[r]? = some o → w'.heap[r]? = some o) : Rows32 w' r n V := by
  obtain ⟨cur, hr, hc⟩ := h
  exact ⟨cur, hk _ hr, hc⟩
theorem RDx.keep (h : RDx w F a n S r1 r2 c1 c2 A m c V1 V2) (hf : Frm G w w') (hG : ∀ b, G b → F b → False) : RDx w' F a n S r1 r2 c1 c2 A m c V1 V2 := by
  have hk : ∀ b o, F b → w.heap[b]? = some o → w'.heap[b]? = some o := fun b o hb ho => hf.obj ho fun hg => hG b hg hb
  exact ⟨h.ok, hk _ _ h.fa h.cells, h.row1.keep fun o => hk _ o h.f1, h.row2.keep fun o => hk _ o h.f2, h.ne, fun i hi => (h.v1 i hi).keep fun b cs hb => hk b _ hb, fun i hi => (h.v2 i hi).keep fun b cs hb => hk b _ hb, h.flt.keep hk, h.m64, h.fa, h.f1, h.f2, fun k hk' => by have := h.lt k hk'; have := hf.size; omega⟩
theorem RD.keep (h : RD w F a n S) (hf : Frm G w w') (hG : ∀ b, G b → F b → False) : RD w' F a n S := by
  obtain ⟨r1, r2, c1, c2, A, m, c, V1, V2, h⟩ := h
  exact ⟨r1, r2, c1, c2, A, m, c, V1, V2, h.keep hf hG⟩
theorem RD.below (h : RD w F a n S) (hb : Below w.heap.size w w') : RD w' F a n S := h.keep (G := fun _ => False) (Frm.of_below hb) fun _ hf => hf.elim
theorem RDx.more (h : RDx w F a n S r1 r2 c1 c2 A m c V1 V2) (hG : ∀ b, F b → G b) (hl : ∀ b, G b → b < w.heap.size) : RDx w G a n S r1 r2 c1 c2 A m c V1 V2 :=
  ⟨h.ok, h.cells, h.row1, h.row2, h.ne, fun i hi => (h.v1 i hi).more hG, fun i hi => (h.v2 i hi).more hG, ⟨h.flt.1, fun h0 => by obtain ⟨b, cur, e, hb, r⟩ := h.flt.2 h0; exact ⟨b, cur, e, hG _ hb, r⟩⟩, h.m64, hG _ h.fa, hG _ h.f1, hG _ h.f2, hl⟩
theorem RD.more (h : RD w F a n S) (hG : ∀ b, F b → G b) (hl : ∀ b, G b → b < w.heap.size) : RD w G a n S := by
  obtain ⟨r1, r2, c1, c2, A, m, c, V1, V2, h⟩ := h
  exact ⟨r1, r2, c1, c2, A, m, c, V1, V2, h.more hG hl⟩
theorem RD.ok (h : RD w F a n S) : S.Ok n := by obtain ⟨_, _, _, _, _, _, _, _, _, h⟩ := h; exact h.ok
theorem RD.lt (h : RD w F a n S) : ∀ k, F k → k < w.heap.size := by obtain ⟨_, _, _, _, _, _, _, _, _, h⟩ := h; exact h.lt
theorem RDx.e0 (h : RDx w F a n S r1 r2 c1 c2 A m c V1 V2) : w.cell? ⟨a, 0, none⟩ = some (.slice (some ⟨r1, 0, none⟩) n c1) := cell_of_row w a 0 _ _ _ h.cells
theorem RDx.e1 (h : RDx w F a n S r1 r2 c1 c2 A m c V1 V2) : w.cell? ⟨a, 1, none⟩ = some (.slice (some ⟨r2, 0, none⟩) n c2) := cell_of_row w a 1 _ _ _ h.cells
theorem RDx.e2 (h : RDx w F a n S r1 r2 c1 c2 A m c V1 V2) : w.cell? ⟨a, 2, none⟩ = some (.slice A m c) := cell_of_row w a 2 _ _ _ h.cells
theorem RDx.e3 (h : RDx w F a n S r1 r2 c1 c2 A m c V1 V2) : w.cell? ⟨a, 3, none⟩ = some (.int .i64 S.cnt) := cell_of_row w a 3 _ _ _ h.cells
theorem RDx.e4 (h : RDx w F a n S r1 r2 c1 c2 A m c V1 V2) : w.cell? ⟨a, 4, none⟩ = some (.bool S.off) := cell_of_row w a 4 _ _ _ h.cells
theorem RDx.fr (h : RDx w F a n S r1 r2 c1 c2 A m c V1 V2) (j : Nat) : w.frozen? ⟨a, j, none⟩ = false := by simp [World.frozen?, h.cells]
theorem rows_ne {r b : Nat} {V : Nat → Value} {cs : Array Value} {t : TypeId} {f : Nat × Nat} (h : Rows32 w r n V) (ho : w.heap[b]? = some (.cells cs t f)) (ht : t ≠ 34) : b ≠ r := by
  rintro rfl
  obtain ⟨cur, hr, _⟩ := h
  rw [ho] at hr
  injection hr with hr
  injection hr with _ hr _
  exact ht hr
/-- The fields of the disk were written. -/
theorem RDx.fields {S' : Dsk} (h : RDx w F a n S r1 r2 c1 c2 A m c V1 V2) (hf : Frm (fun b => b = a) w w') (hok : S'.Ok n) (hst : S'.st = S.st) (hca : S'.ca = S.ca) (hfs : S'.fs = S.fs)
    (hc : w'.heap[a]? = some (.cells #[.slice (some ⟨r1, 0, none⟩) n c1, .slice (some ⟨r2, 0, none⟩) n c2, .slice A m c, .int .i64 S'.cnt, .bool S'.off] 90 (0, 0))) : RDx w' F a n S' r1 r2 c1 c2 A m c V1 V2 := by
  have hk : ∀ (b : Nat) (cs : Array Value) (t : TypeId) (f : Nat × Nat), t ≠ 90 → w.heap[b]? = some (.cells cs t f) → w'.heap[b]? = some (.cells cs t f) := fun b cs t f ht ho => hf.obj ho (by
    rintro rfl
    rw [h.cells] at ho
    injection ho with ho
    injection ho with _ ho _
    exact ht ho.symm)
  have hr : ∀ {r V}, Rows32 w r n V → Rows32 w' r n V := fun ⟨cur, hr, hc⟩ => ⟨cur, hk _ _ _ _ (by decide) hr, hc⟩
  refine ⟨hok, hc, hr h.row1, hr h.row2, h.ne, by rw [hst]; exact fun i hi => (h.v1 i hi).keep fun b cs _ => hk b cs _ _ (by decide), by rw [hca]; exact fun i hi => (h.v2 i hi).keep fun b cs _ => hk b cs _ _ (by decide), by rw [hfs]; exact ⟨h.flt.1, fun h0 => by obtain ⟨b, cur, e, hb, hcc, r⟩ := h.flt.2 h0; exact ⟨b, cur, e, hb, hk _ _ _ _ (by decide) hcc, r⟩⟩, h.m64, h.fa, h.f1, h.f2, fun k hk' => by have := h.lt k hk'; have := hf.size; omega⟩
/-- A cell of the stored row, or of the cache's, was written. -/
theorem RDx.set1 (h : RDx w F a n S r1 r2 c1 c2 A m c V1 V2) {i : Nat} (hi : i < n) {v : Value} {xs : List UInt8} (hv : Sl w F v xs) (hx : xs.length = 64) :
    RDx (w.setCell ⟨r1, i, none⟩ v) F a n { S with st := upd S.st i xs } r1 r2 c1 c2 A m c (upd V1 i v) V2 := by
  have hf : Frm (fun b => b = r1) w (w.setCell ⟨r1, i, none⟩ v) := (Frm.refl (fun b => b = r1) w).setCell (p := ⟨r1, i, none⟩) (.inl rfl) _
  have hk : ∀ (b : Nat) (cs : Array Value) (t : TypeId) (f : Nat × Nat), t ≠ 34 → w.heap[b]? = some (.cells cs t f) → (w.setCell ⟨r1, i, none⟩ v).heap[b]? = some (.cells cs t f) := fun b cs t f ht ho => hf.obj ho (rows_ne h.row1 ho ht)
  refine ⟨⟨h.ok.n1, h.ok.n4, fun j hj => ?_, h.ok.ca, h.ok.c0, h.ok.c1⟩, hk _ _ _ _ (by decide) h.cells, h.row1.set hi v, h.row2.keep fun o ho => hf.obj ho (fun e => h.ne e.symm), h.ne, fun j hj => ?_, fun j hj => (h.v2 j hj).keep fun b cs _ => hk b cs _ _ (by decide), ⟨h.flt.1, fun h0 => by obtain ⟨b, cur, e, hb, hcc, r⟩ := h.flt.2 h0; exact ⟨b, cur, e, hb, hk _ _ _ _ (by decide) hcc, r⟩⟩, h.m64, h.fa, h.f1, h.f2, fun k hk' => by have := h.lt k hk'; have := hf.size; omega⟩
  · by_cases hji : j = i
    · subst hji; simp only [upd_same]; exact hx
    · simp only [upd_other _ _ hji]; exact h.ok.st j hj
  · by_cases hji : j = i
    · subst hji; simp only [upd_same]; exact hv.keep fun b cs _ => hk b cs _ _ (by decide)
    · simp only [upd_other _ _ hji]; exact (h.v1 j hj).keep fun b cs _ => hk b cs _ _ (by decide)
theorem RDx.set2 (h : RDx w F a n S r1 r2 c1 c2 A m c V1 V2) {i : Nat} (hi : i < n) {v : Value} {o : Option (List UInt8)} (hv : Cc w F v o) (hx : ∀ xs, o = some xs → xs.length = 64) :
    RDx (w.setCell ⟨r2, i, none⟩ v) F a n { S with ca := upd S.ca i o } r1 r2 c1 c2 A m c V1 (upd V2 i v) := by
  have hf : Frm (fun b => b = r2) w (w.setCell ⟨r2, i, none⟩ v) := (Frm.refl (fun b => b = r2) w).setCell (p := ⟨r2, i, none⟩) (.inl rfl) _
  have hk : ∀ (b : Nat) (cs : Array Value) (t : TypeId) (f : Nat × Nat), t ≠ 34 → w.heap[b]? = some (.cells cs t f) → (w.setCell ⟨r2, i, none⟩ v).heap[b]? = some (.cells cs t f) := fun b cs t f ht ho => hf.obj ho (rows_ne h.row2 ho ht)
  refine ⟨⟨h.ok.n1, h.ok.n4, h.ok.st, fun j xs hj => ?_, h.ok.c0, h.ok.c1⟩, hk _ _ _ _ (by decide) h.cells, h.row1.keep fun o ho => hf.obj ho h.ne, h.row2.set hi v, h.ne, fun j hj => (h.v1 j hj).keep fun b cs _ => hk b cs _ _ (by decide), fun j hj => ?_, ⟨h.flt.1, fun h0 => by obtain ⟨b, cur, e, hb, hcc, r⟩ := h.flt.2 h0; exact ⟨b, cur, e, hb, hk _ _ _ _ (by decide) hcc, r⟩⟩, h.m64, h.fa, h.f1, h.f2, fun k hk' => by have := h.lt k hk'; have := hf.size; omega⟩
  · by_cases hji : j = i
    · subst hji; simp only [upd_same] at hj; exact ⟨hi, hx xs hj⟩
    · simp only [upd_other _ _ hji] at hj; exact h.ok.ca j xs hj
  · by_cases hji : j = i
    · subst hji; simp only [upd_same]; exact hv.keep fun b cs _ => hk b cs _ _ (by decide)
    · simp only [upd_other _ _ hji]; exact (h.v2 j hj).keep fun b cs _ => hk b cs _ _ (by decide)
end

end Go.Proofs.Ytpnebhfegahaoaa
