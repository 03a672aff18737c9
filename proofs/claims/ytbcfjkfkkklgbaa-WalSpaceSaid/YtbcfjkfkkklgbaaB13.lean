/-
The reference's disk in memory ('RD').
Contracts of the reference's Off, Cut, Sectors, fault, content, Read.
Contracts of the reference's Read and Write.
The contract of the reference's Write.
-/
import Derived.Test.YtbcfjkfkkklgbaaB12
import Derived.Test.YtbcfjkfkkklgbaaB10
import Derived.BigQuiet
import Derived.Test.YtbcfjkfkkklgbaaB09
import Derived.Deep.AppendLies
namespace Go.Proofs.Ytbcfjkfkkklgbaa
section
section
open Go.RowKit

/-- A value that leads to 64 bytes in a block of F. -/
def Sl (w : World) (F : Nat → Prop) (v : Value) (xs : List UInt8) : Prop := ∃ g c, v = .slice (some ⟨g, 0, none⟩) 64 c ∧ F g ∧ Own8 w g c 64 xs
theorem Sl.keep {w w' : World} {F : Nat → Prop} {v : Value} {xs : List UInt8} (h : Sl w F v xs) (hk : ∀ b cs, F b → w.heap[b]? = some (.cells cs 5 (0, 0)) → w'.heap[b]? = some (.cells cs 5 (0, 0))) : Sl w' F v xs := by
  obtain ⟨g, c, e, hF, cur, hr, r⟩ := h
  exact ⟨g, c, e, hF, cur, hk g cur hF hr, r⟩
theorem Sl.more {w : World} {F G : Nat → Prop} {v : Value} {xs : List UInt8} (h : Sl w F v xs) (hG : ∀ b, F b → G b) : Sl w G v xs := by
  obtain ⟨g, c, e, hF, r⟩ := h
  exact ⟨g, c, e, hG g hF, r⟩
/-- A cell of the cache. -/
def Cc (w : World) (F : Nat → Prop) (v : Value) : Option (List UInt8) → Prop
  | none => v = .slice none 0 0
  | some xs => Sl w F v xs
theorem Cc.keep {w w' : World} {F : Nat → Prop} {v : Value} {o : Option (List UInt8)} (h : Cc w F v o) (hk : ∀ b cs, F b → w.heap[b]? = some (.cells cs 5 (0, 0)) → w'.heap[b]? = some (.cells cs 5 (0, 0))) : Cc w' F v o := by
  cases o with
  | none => exact h
  | some xs => exact Sl.keep h hk
theorem Cc.more {w : World} {F G : Nat → Prop} {v : Value} {o : Option (List UInt8)} (h : Cc w F v o) (hG : ∀ b, F b → G b) : Cc w G v o := by
  cases o with
  | none => exact h
  | some xs => exact Sl.more h hG

/-- A row of slices whose first ones are known. -/
def Rows32 (w : World) (r n : Nat) (V : Nat → Value) : Prop := ∃ cur : Array Value, w.heap[r]? = some (.cells cur 34 (0, 0)) ∧ ∀ i, i < n → cur[i]? = some (V i)
theorem Rows32.cell {w : World} {r n : Nat} {V : Nat → Value} (h : Rows32 w r n V) {i : Nat} (hi : i < n) : w.cell? ⟨r, i, none⟩ = some (V i) := by
  obtain ⟨cur, hr, hc⟩ := h
  rw [cell_of_row w r i _ _ _ hr, hc i hi]
theorem Rows32.fr {w : World} {r n : Nat} {V : Nat → Value} (h : Rows32 w r n V) (i : Nat) : w.frozen? ⟨r, i, none⟩ = false := by
  obtain ⟨cur, hr, _⟩ := h
  simp [World.frozen?, hr]
theorem Rows32.set {w : World} {r n : Nat} {V : Nat → Value} (h : Rows32 w r n V) {i : Nat} (hi : i < n) (v : Value) : Rows32 (w.setCell ⟨r, i, none⟩ v) r n (upd V i v) := by
  obtain ⟨cur, hr, hc⟩ := h
  refine ⟨cur.setIfInBounds i v, ?_, fun j hj => ?_⟩
  · exact set_field hr
  · have hlt : i < cur.size := (Array.getElem?_eq_some_iff.1 (hc i hi)).1
    by_cases hji : j = i
    · subst hji
      rw [upd_same, Array.getElem?_setIfInBounds_self_of_lt hlt]
    · rw [upd_other _ _ hji, Array.getElem?_setIfInBounds_ne (fun e => hji e.symm), hc j hj]

structure RDx (w : World) (F : Nat → Prop) (a n : Nat) (S : Dsk) (r1 r2 c1 c2 : Nat) (A : Option Addr) (m c : Nat) (V1 V2 : Nat → Value) : Prop where
  ok : S.Ok n
  cells : w.heap[a]? = some (.cells #[.slice (some ⟨r1, 0, none⟩) n c1, .slice (some ⟨r2, 0, none⟩) n c2, .slice A m c, .int .i64 S.cnt, .bool S.off] 101 (0, 0))
  row1 : Rows32 w r1 n V1
  row2 : Rows32 w r2 n V2
  ne : r1 ≠ r2
  v1 : ∀ i, i < n → Sl w F (V1 i) (S.st i)
  v2 : ∀ i, i < n → Cc w F (V2 i) (S.ca i)
  flt : FltAt w F A m S.fs
  m64 : m ≤ 64
  fa : F a
  f1 : F r1
  f2 : F r2
  lt : ∀ k, F k → k < w.heap.size
/-- At block a stands the reference's disk. -/
def RD (w : World) (F : Nat → Prop) (a n : Nat) (S : Dsk) : Prop := ∃ r1 r2 c1 c2 A m c V1 V2, RDx w F a n S r1 r2 c1 c2 A m c V1 V2
section
variable {w w' : World} {F G : Nat → Prop} {a n : Nat} {S : Dsk} {r1 r2 c1 c2 m c : Nat} {A : Option Addr} {V1 V2 : Nat → Value}
theorem Rows32.keep {r : Nat} {V : Nat → Value} (h : Rows32 w r n V) (hk : ∀ o, w.heap[r]? = some o → w'.heap[r]? = some o) : Rows32 w' r n V := by
  obtain ⟨cur, hr, hc⟩ := h
  exact ⟨cur, hk _ hr, hc⟩
theorem RDx.keep (h : RDx w F a n S r1 r2 c1 c2 A m c V1 V2) (hf : Frm G w w') (hG : ∀ b, G b → F b → False) : RDx w' F a n S r1 r2 c1 c2 A m c V1 V2 := by
  have hk : ∀ b o, F b → w.heap[b]? = some o → w'.heap[b]? = some o := fun b o hb ho => hf.obj ho fun hg => hG b hg hb
  exact ⟨h.ok, hk _ _ h.fa h.cells, h.row1.keep fun o => hk _ o h.f1, h.row2.keep fun o => hk _ o h.f2, h.ne, fun i hi => (h.v1 i hi).keep fun b cs hb => hk b _ hb, fun i hi => (h.v2 i hi).keep fun b cs hb => hk b _ hb, h.flt.keep hk, h.m64, h.fa, h.f1, h.f2, fun k hk' => by have := h.lt k hk'; have := hf.size; omega⟩
theorem RD.keep (h : RD w F a n S) (hf : Frm G w w') (hG : ∀ b, G b → F b → False) : RD w' F a n S := by
  obtain ⟨r1, r2, c1, c2, A, m, c, V1, V2, h⟩ := h
  exact ⟨r1, r2, c1, c2, A, m, c, V1, V2, h.keep hf hG⟩
theorem RD.below (h : RD w F a n S) (hb : Below w.heap.size w w') : RD w' F a n S := h.keep (G := fun _ => False) (Frm.of_below hb) fun _ hf => hf.elim
theorem RDx.more (h : RDx w F a n S r1 r2 c1 c2 A m c V1 V2) (hG : ∀ b, F b → G b) (hl : ∀ b, G b → b < w.heap.size) : RDx w G a n S r1 r2 c1 c2 A m c V1 V2 :=
  ⟨h.ok, h.cells, h.row1, h.row2, h.ne, fun i hi => (h.v1 i hi).more hG, fun i hi => (h.v2 i hi).more hG, ⟨h.flt.1, fun h0 => by obtain ⟨b, cur, e, hb, r⟩ := h.flt.2 h0; exact ⟨b, cur, e, hG _ hb, r⟩⟩, h.m64, hG _ h.fa, hG _ h.f1, hG _ h.f2, hl⟩
theorem RD.more (h : RD w F a n S) (hG : ∀ b, F b → G b) (hl : ∀ b, G b → b < w.heap.size) : RD w G a n S := by
  obtain ⟨r1, r2, c1, c2, A, m, c, V1, V2, h⟩ := h
  exact ⟨r1, r2, c1, c2, A, m, c, V1, V2, h.more hG hl⟩
theorem RD.ok (h : RD w F a n S) : S.Ok n := by obtain ⟨_, _, _, _, _, _, _, _, _, h⟩ := h; exact h.ok
theorem RD.lt (h : RD w F a n S) : ∀ k, F k → k < w.heap.size := by obtain ⟨_, _, _, _, _, _, _, _, _, h⟩ := h; exact h.lt
theorem RDx.e0 (h : RDx w F a n S r1 r2 c1 c2 A m c V1 V2) : w.cell? ⟨a, 0, none⟩ = some (.slice (some ⟨r1, 0, none⟩) n c1) := cell_of_row w a 0 _ _ _ h.cells
theorem RDx.e1 (h : RDx w F a n S r1 r2 c1 c2 A m c V1 V2) : w.cell? ⟨a, 1, none⟩ = some (.slice (some ⟨r2, 0, none⟩) n c2) := cell_of_row w a 1 _ _ _ h.cells
theorem RDx.e2 (h : RDx w F a n S r1 r2 c1 c2 A m c V1 V2) : w.cell? ⟨a, 2, none⟩ = some (.slice A m c) := cell_of_row w a 2 _ _ _ h.cells
theorem RDx.e3 (h : RDx w F a n S r1 r2 c1 c2 A m c V1 V2) : w.cell? ⟨a, 3, none⟩ = some (.int .i64 S.cnt) := cell_of_row w a 3 _ _ _ h.cells
theorem RDx.e4 (h : RDx w F a n S r1 r2 c1 c2 A m c V1 V2) : w.cell? ⟨a, 4, none⟩ = some (.bool S.off) := cell_of_row w a 4 _ _ _ h.cells
theorem RDx.fr (h : RDx w F a n S r1 r2 c1 c2 A m c V1 V2) (j : Nat) : w.frozen? ⟨a, j, none⟩ = false := by simp [World.frozen?, h.cells]
theorem rows_ne {r b : Nat} {V : Nat → Value} {cs : Array Value} {t : TypeId} {f : Nat × Nat} (h : Rows32 w r n V) (ho : w.heap[b]? = some (.cells cs t f)) (ht : t ≠ 34) : b ≠ r := by
  rintro rfl
  obtain ⟨cur, hr, _⟩ := h
  rw [ho] at hr
  injection hr with hr
  injection hr with _ hr _
  exact ht hr
/-- The fields of the disk were written. -/
theorem RDx.fields {S' : Dsk} (h : RDx w F a n S r1 r2 c1 c2 A m c V1 V2) (hf : Frm (fun b => b = a) w w') (hok : S'.Ok n) (hst : S'.st = S.st) (hca : S'.ca = S.ca) (hfs : S'.fs = S.fs)
    (hc : w'.heap[a]? = some (.cells #[.slice (some ⟨r1, 0, none⟩) n c1, .slice (some ⟨r2, 0, none⟩) n c2, .slice A m c, .int .i64 S'.cnt, .bool S'.off] 101 (0, 0))) : RDx w' F a n S' r1 r2 c1 c2 A m c V1 V2 := by
  have hk : ∀ (b : Nat) (cs : Array Value) (t : TypeId) (f : Nat × Nat), t ≠ 101 → w.heap[b]? = some (.cells cs t f) → w'.heap[b]? = some (.cells cs t f) := fun b cs t f ht ho => hf.obj ho (by
    rintro rfl
    rw [h.cells] at ho
    injection ho with ho
    injection ho with _ ho _
    exact ht ho.symm)
  have hr : ∀ {r V}, Rows32 w r n V → Rows32 w' r n V := fun ⟨cur, hr, hc⟩ => ⟨cur, hk _ _ _ _ (by decide) hr, hc⟩
  refine ⟨hok, hc, hr h.row1, hr h.row2, h.ne, by rw [hst]; exact fun i hi => (h.v1 i hi).keep fun b cs _ => hk b cs _ _ (by decide), by rw [hca]; exact fun i hi => (h.v2 i hi).keep fun b cs _ => hk b cs _ _ (by decide), by rw [hfs]; exact ⟨h.flt.1, fun h0 => by obtain ⟨b, cur, e, hb, hcc, r⟩ := h.flt.2 h0; exact ⟨b, cur, e, hb, hk _ _ _ _ (by decide) hcc, r⟩⟩, h.m64, h.fa, h.f1, h.f2, fun k hk' => by have := h.lt k hk'; have := hf.size; omega⟩
/-- A cell of the stored row, or of the cache's, was written. -/
theorem RDx.set1 (h : RDx w F a n S r1 r2 c1 c2 A m c V1 V2) {i : Nat} (hi : i < n) {v : Value} {xs : List UInt8} (hv : Sl w F v xs) (hx : xs.length = 64) :
    RDx (w.setCell ⟨r1, i, none⟩ v) F a n { S with st := upd S.st i xs } r1 r2 c1 c2 A m c (upd V1 i v) V2 := by
  have hf : Frm (fun b => b = r1) w (w.setCell ⟨r1, i, none⟩ v) := (Frm.refl (fun b => b = r1) w).setCell (p := ⟨r1, i, none⟩) (.inl rfl) _
  have hk : ∀ (b : Nat) (cs : Array Value) (t : TypeId) (f : Nat × Nat), t ≠ 34 → w.heap[b]? = some (.cells cs t f) → (w.setCell ⟨r1, i, none⟩ v).heap[b]? = some (.cells cs t f) := fun b cs t f ht ho => hf.obj ho (rows_ne h.row1 ho ht)
  refine ⟨⟨h.ok.n1, h.ok.n4, fun j hj => ?_, h.ok.ca, h.ok.c0, h.ok.c1⟩, hk _ _ _ _ (by decide) h.cells, h.row1.set hi v, h.row2.keep fun o ho => hf.obj ho (fun e => h.ne e.symm), h.ne, fun j hj => ?_, fun j hj => (h.v2 j hj).keep fun b cs _ => hk b cs _ _ (by decide), ⟨h.flt.1, fun h0 => by obtain ⟨b, cur, e, hb, hcc, r⟩ := h.flt.2 h0; exact ⟨b, cur, e, hb, hk _ _ _ _ (by decide) hcc, r⟩⟩, h.m64, h.fa, h.f1, h.f2, fun k hk' => by have := h.lt k hk'; have := hf.size; omega⟩
  · by_cases hji : j = i
    · subst hji; simp only [upd_same]; exact hx
    · simp only [upd_other _ _ hji]; exact h.ok.st j hj
  · by_cases hji : j = i
    · subst hji; simp only [upd_same]; exact hv.keep fun b cs _ => hk b cs _ _ (by decide)
    · simp only [upd_other _ _ hji]; exact (h.v1 j hj).keep fun b cs _ => hk b cs _ _ (by decide)
theorem RDx.set2 (h : RDx w F a n S r1 r2 c1 c2 A m c V1 V2) {i : Nat} (hi : i < n) {v : Value} {o : Option (List UInt8)} (hv : Cc w F v o) (hx : ∀ xs, o = some xs → xs.length = 64) :
    RDx (w.setCell ⟨r2, i, none⟩ v) F a n { S with ca := upd S.ca i o } r1 r2 c1 c2 A m c V1 (upd V2 i v) := by
  have hf : Frm (fun b => b = r2) w (w.setCell ⟨r2, i, none⟩ v) := (Frm.refl (fun b => b = r2) w).setCell (p := ⟨r2, i, none⟩) (.inl rfl) _
  have hk : ∀ (b : Nat) (cs : Array Value) (t : TypeId) (f : Nat × Nat), t ≠ 34 → w.heap[b]? = some (.cells cs t f) → (w.setCell ⟨r2, i, none⟩ v).heap[b]? = some (.cells cs t f) := fun b cs t f ht ho => hf.obj ho (rows_ne h.row2 ho ht)
  refine ⟨⟨h.ok.n1, h.ok.n4, h.ok.st, fun j xs hj => ?_, h.ok.c0, h.ok.c1⟩, hk _ _ _ _ (by decide) h.cells, h.row1.keep fun o ho => hf.obj ho h.ne, h.row2.set hi v, h.ne, fun j hj => (h.v1 j hj).keep fun b cs _ => hk b cs _ _ (by decide), fun j hj => ?_, ⟨h.flt.1, fun h0 => by obtain ⟨b, cur, e, hb, hcc, r⟩ := h.flt.2 h0; exact ⟨b, cur, e, hb, hk _ _ _ _ (by decide) hcc, r⟩⟩, h.m64, h.fa, h.f1, h.f2, fun k hk' => by have := h.lt k hk'; have := hf.size; omega⟩
  · by_cases hji : j = i
    · subst hji; simp only [upd_same] at hj; exact ⟨hi, hx xs hj⟩
    · simp only [upd_other _ _ hji] at hj; exact h.ok.ca j xs hj
  · by_cases hji : j = i
    · subst hji; simp only [upd_same]; exact hv.keep fun b cs _ => hk b cs _ _ (by decide)
    · simp only [upd_other _ _ hji]; exact (h.v2 j hj).keep fun b cs _ => hk b cs _ _ (by decide)
end
end

section
open Go.RowKit

theorem tyRows' : Try.prog.underlying 22 = some (.slice 34) := by kernel_rfl
set_option maxHeartbeats 400000 in
theorem roff_any {w : World} {F : Nat → Prop} {a n : Nat} {S : Dsk} (h : RD w F a n S) : Calls Try.prog 47 #[.pointer (some ⟨a, 0, none⟩)] w fun e w' => e = .returned (.bool S.off) ∧ w = w' := by
  obtain ⟨r1, r2, c1, c2, A, m, c, V1, V2, h⟩ := h
  have c4 := h.e4
  clear h
  go_enter Try.func47, Try.ntmps47
  go_wp2
  go_ret
  exact ⟨ret_bool (by simp), rfl⟩
set_option maxHeartbeats 400000 in
theorem rsectors_any {w : World} {F : Nat → Prop} {a n : Nat} {S : Dsk} (h : RD w F a n S) : Calls Try.prog 80 #[.pointer (some ⟨a, 0, none⟩)] w fun e w' => e = .returned (.int .i64 n) ∧ w = w' := by
  obtain ⟨r1, r2, c1, c2, A, m, c, V1, V2, h⟩ := h
  have c0 := h.e0
  clear h
  go_enter Try.func80, Try.ntmps80
  go_wp2
  go_ret
  exact ⟨rfl, rfl⟩

theorem rtick {w : World} {F : Nat → Prop} {a n : Nat} {S : Dsk} {r1 r2 c1 c2 m c : Nat} {A : Option Addr} {V1 V2 : Nat → Value} (h1 : RDx w F a n S r1 r2 c1 c2 A m c V1 V2) :
    RDx (w.setCell ⟨a, 3, none⟩ (.int .i64 (wrap64 (S.cnt + 1)))) F a n S.tick r1 r2 c1 c2 A m c V1 V2 ∧ Frm (fun b => b = a) w (w.setCell ⟨a, 3, none⟩ (.int .i64 (wrap64 (S.cnt + 1)))) := by
  have hf : Frm (fun b => b = a) w (w.setCell ⟨a, 3, none⟩ (.int .i64 (wrap64 (S.cnt + 1)))) := (Frm.refl (fun b => b = a) w).setCell (p := ⟨a, 3, none⟩) (.inl rfl) _
  refine ⟨h1.fields hf h1.ok.tick rfl rfl rfl ?_, hf⟩
  have := set_field (j := 3) (v := .int .i64 (wrap64 (S.cnt + 1))) h1.cells
  rw [this]
  rfl
set_option maxRecDepth 20000 in
set_option maxHeartbeats 1600000 in
theorem rfault_any {w : World} {F : Nat → Prop} {a n : Nat} {S : Dsk} (h : RD w F a n S) : Calls Try.prog 73 #[.pointer (some ⟨a, 0, none⟩)] w fun e w' => e = .returned (.int .i64 S.kind) ∧ RD w' F a n S.tick ∧ Frm F w w' := by
  obtain ⟨r1, r2, c1, c2, A, m, c, V1, V2, h⟩ := h
  have HH := Lib.hid h
  have k2 := h.e2
  have hm := h.m64
  have hmw : wrap64 ((m : Int) - 1) = (m : Int) - 1 := by unfold wrap64; omega
  have lta := h.lt a h.fa
  clear h
  go_enter Try.func73, Try.ntmps73
  go_wp2
  go_loopw [3, 4] (fun kv iv wr => ∃ (k : Nat) (z : Int), k ≤ m ∧ z = (k : Int) - 1 ∧ iv = .int .i64 z ∧ kv = .int .i64 (fk (S.fs.drop k) S.cnt) ∧ Hid (Below w.heap.size w wr)) (fun _ iv _ => (RowKit.intOf iv + 1).toNat)
  case atStart => exact ⟨m, (m : Int) - 1, Nat.le_refl _, rfl, rfl, by rw [List.drop_of_length_le (by rw [HH.out.flt.1]; exact Nat.le_refl _)]; rfl, Below.refl _ _⟩
  case round =>
    obtain ⟨k, z, hk, hz, rfl, rfl, HR⟩ := hrel
    have a2 := (HR.out.cell (p := ⟨a, 2, none⟩) lta).trans k2
    have a3 := (HR.out.cell (p := ⟨a, 3, none⟩) lta).trans HH.out.e3
    by_cases hk0 : k = 0
    · subst hk0
      have hz1 : z = -1 := by omega
      subst hz1
      clear hz hk
      have hd : Hid (fk (S.fs.drop 0) S.cnt = S.kind) := rfl
      generalize fk (S.fs.drop 0) S.cnt = kd at hd ⊢
      have f3 := (HR.out.frozen (p := ⟨a, 3, none⟩) lta).trans (HH.out.fr 3)
      go_wp2
      go_ret
      have h1 := HH.out.keep (G := fun _ => False) (Frm.of_below HR.out) fun _ h => h.elim
      obtain ⟨h2, hf⟩ := rtick h1
      exact ⟨ret_int hd.out, ⟨r1, r2, c1, c2, A, m, c, V1, V2, h2⟩, (Frm.of_below HR.out).trans hf fun b e => .inl (e ▸ h1.fa)⟩
    · obtain ⟨j, rfl⟩ : ∃ j, k = j + 1 := ⟨k - 1, by omega⟩
      have hzj : z = (j : Int) := by omega
      subst hzj
      obtain ⟨b, cur, rfl, hFb, hrow, hc⟩ := HH.out.flt.2 (by omega)
      have hjf : j < S.fs.length := by rw [HH.out.flt.1]; omega
      obtain ⟨h1, h2⟩ := hc j hjf
      have d1 := (HR.out.cell (p := ⟨b, j * 2, none⟩) (lt_of_some hrow)).trans ((cell_of_row w b (j * 2) _ _ _ hrow).trans h1)
      have d2 := (HR.out.cell (p := ⟨b, j * 2 + 1, none⟩) (lt_of_some hrow)).trans ((cell_of_row w b (j * 2 + 1) _ _ _ hrow).trans h2)
      have hstep : Hid (fk (S.fs.drop j) S.cnt = if S.fs[j].1 = S.cnt then S.fs[j].2 else fk (S.fs.drop (j + 1)) S.cnt) := by
        show _ = _
        rw [List.drop_eq_getElem_cons hjf, fk_cons]
      generalize S.fs[j].1 = p1 at d1 hstep
      generalize S.fs[j].2 = p2 at d2 hstep
      have hjm : (j : Int) < (m : Int) := by omega
      have hj64 : (j : Int) ≤ 64 := by omega
      have hjw : wrap64 ((j : Int) - 1) = (j : Int) - 1 := by unfold wrap64; omega
      have hrow' := Lib.hid hrow
      clear hc h1 h2 hjf hz hk0 hrow
      by_cases he : p1 = S.cnt
      · have he' : (p1 == S.cnt) = true := by simpa using he
        have HE := Lib.hid he
        clear he
        go_wp2
        go_quiet (fail)
        go_wp2
        go_roundw
        case rel => exact ⟨j, (j : Int) - 1, by omega, rfl, by go_num, by rw [hstep.out, if_pos HE.out], HR.out.trans (drewN_bel _ _ _)⟩
        case measure => simp [RowKit.intOf]
      · have he' : (p1 == S.cnt) = false := by simpa using he
        have HE := Lib.hid he
        clear he
        go_wp2
        go_quiet (fail)
        go_wp2
        go_roundw
        case rel => exact ⟨j, (j : Int) - 1, by omega, rfl, by go_num, by rw [hstep.out, if_neg HE.out], HR.out.trans (drewN_bel _ _ _)⟩
        case measure => simp [RowKit.intOf]

set_option maxHeartbeats 800000 in
theorem rcontent_any {w : World} {F : Nat → Prop} {a n : Nat} {S : Dsk} (h : RD w F a n S) (i : Nat) (hi : i < n) : Calls Try.prog 74 #[.pointer (some ⟨a, 0, none⟩), .int .i64 i] w fun e w' => (∃ v, e = .returned v ∧ Sl w F v (S.sec i)) ∧ w = w' := by
  obtain ⟨r1, r2, c1, c2, A, m, c, V1, V2, h⟩ := h
  have k0 := h.e0
  have k1 := h.e1
  have d1 := h.row1.cell hi
  have d2 := h.row2.cell hi
  have hv1 := h.v1 i hi
  have hv2 := h.v2 i hi
  have hib : (i : Int) < (n : Int) := by omega
  have h4 := h.ok.n4
  have hi4 : (i : Int) ≤ 4096 := by omega
  clear h h4
  cases hc : S.ca i with
  | none =>
    have hs : Hid (S.sec i = S.st i) := by show _ = _; simp [Dsk.sec, hc]
    rw [hc] at hv2
    have hv2' : V2 i = .slice none 0 0 := hv2
    rw [hv2'] at d2
    have q0 : ∀ W : World, (binOp .neq 34 (.slice none 0 0) (.slice none 0 0)).run Try.prog W = .ok (.bool false) W := fun W => run_neq_slice_nil_any W _ _ none 0 0 0 0 tyBs
    have HV := Lib.hid hv1
    clear hv1 hv2 hv2' hc
    generalize V1 i = v at d1 HV
    go_enter Try.func74, Try.ntmps74
    go_wp2
    go_ret
    exact ⟨⟨v, rfl, by rw [hs.out]; exact HV.out⟩, rfl⟩
  | some xs =>
    have hs : Hid (S.sec i = xs) := by show _ = _; simp [Dsk.sec, hc]
    rw [hc] at hv2
    obtain ⟨g, cg, ev, hF, ho⟩ := (show Sl w F (V2 i) xs from hv2)
    rw [ev] at d2
    have q0 : ∀ W : World, (binOp .neq 34 (.slice (some ⟨g, 0, none⟩) 64 cg) (.slice none 0 0)).run Try.prog W = .ok (.bool true) W := fun W => run_neq_slice_nil_any W _ _ (some ⟨g, 0, none⟩) 64 cg 0 0 tyBs
    have HV := Lib.hid (And.intro hF ho)
    clear hv1 hv2 hc ev hF ho
    go_enter Try.func74, Try.ntmps74
    go_wp2
    go_ret
    exact ⟨⟨.slice (some ⟨g, 0, none⟩) 64 cg, rfl, by rw [hs.out]; exact ⟨g, cg, rfl, HV.out⟩⟩, rfl⟩
end

section
open Go.RowKit

/-- What an operation answers where it has no effect: nothing but the count has turned. -/
theorem kind_err {S : Dsk} (ho : S.off = false) (hk : S.kind = 1) : S.err true = 9 := by simp [Dsk.err, ho, hk]
theorem rcut_cell {w : World} {F : Nat → Prop} {a n : Nat} {S : Dsk} {r1 r2 c1 c2 m c : Nat} {A : Option Addr} {V1 V2 : Nat → Value} (h1 : RDx w F a n S r1 r2 c1 c2 A m c V1 V2) :
    RDx (w.setCell ⟨a, 4, none⟩ (.bool true)) F a n S.cut r1 r2 c1 c2 A m c V1 V2 ∧ Frm (fun b => b = a) w (w.setCell ⟨a, 4, none⟩ (.bool true)) := by
  have hf : Frm (fun b => b = a) w (w.setCell ⟨a, 4, none⟩ (.bool true)) := (Frm.refl (fun b => b = a) w).setCell (p := ⟨a, 4, none⟩) (.inl rfl) _
  refine ⟨h1.fields hf h1.ok.cut rfl rfl rfl ?_, hf⟩
  have := set_field (j := 4) (v := .bool true) h1.cells
  rw [this]
  rfl
set_option maxRecDepth 20000 in
set_option maxHeartbeats 1600000 in
theorem rread_any {w : World} {F : Nat → Prop} {a n : Nat} {S : Dsk} (h : RD w F a n S) (i : Int) :
    Calls Try.prog 22 #[.pointer (some ⟨a, 0, none⟩), .int .i64 i] w fun e w' => ∃ v z, e = .returned (.tuple #[v, .int .i64 z]) ∧ z = S.ans (inR n i) ∧ RD w' F a n (S.done (inR n i)) ∧ Frm F w w' ∧
      (z ≠ 0 → v = .slice none 0 0) ∧ (z = 0 → ∃ g c, v = .slice (some ⟨g, 0, none⟩) 64 c ∧ w.heap.size ≤ g ∧ Own8 w' g c 64 (S.sec i.toNat)) := by
  cases ho : S.off with
  | true =>
    have h1 : S.ans (inR n i) = 10 := by simp [Dsk.ans, Dsk.err, ho]
    have h2 : S.done (inR n i) = S := by simp [Dsk.done, Dsk.err, Dsk.begun, ho]
    rw [h1, h2]
    have hx := h
    obtain ⟨r1, r2, c1, c2, A, m, c, V1, V2, hx⟩ := hx
    have c4 := hx.e4
    rw [ho] at c4
    have H := Lib.hid h
    clear hx h ho h1 h2
    go_enter Try.func22, Try.ntmps22
    go_wp2
    go_ret2
    exact ⟨_, 10, rfl, rfl, H.out, Frm.refl _ _, fun _ => rfl, fun h => absurd h (by decide)⟩
  | false =>
    have hx := h
    obtain ⟨r1, r2, c1, c2, A, m, c, V1, V2, hx⟩ := hx
    have c4 := hx.e4
    rw [ho] at c4
    have c0 := hx.e0
    have hn4 := hx.ok.n4
    have hn4i : (n : Int) ≤ 4096 := by omega
    have H := Lib.hid h
    clear hx h
    by_cases hi0 : i < 0
    · have hir : inR n i = false := by simp [inR]; omega
      have h1 : S.ans (inR n i) = 2 := by simp [Dsk.ans, Dsk.err, ho, hir]
      have h2 : S.done (inR n i) = S := by simp [Dsk.done, Dsk.err, Dsk.begun, ho, hir]
      rw [h1, h2]
      have hi0' : decide (i < 0) = true := by simpa using hi0
      clear ho h1 h2 hi0
      go_enter Try.func22, Try.ntmps22
      go_wp2
      go_ret2
      exact ⟨_, 2, rfl, rfl, H.out, Frm.refl _ _, fun _ => rfl, fun h => absurd h (by decide)⟩
    · have hi0' : decide (i < 0) = false := by simpa using hi0
      by_cases hin : (n : Int) ≤ i
      · have hir : inR n i = false := by simp [inR]; omega
        have h1 : S.ans (inR n i) = 2 := by simp [Dsk.ans, Dsk.err, ho, hir]
        have h2 : S.done (inR n i) = S := by simp [Dsk.done, Dsk.err, Dsk.begun, ho, hir]
        rw [h1, h2]
        have hin' : decide ((n : Int) ≤ i) = true := by simpa using hin
        clear ho h1 h2 hi0 hin
        go_enter Try.func22, Try.ntmps22
        go_wp2
        go_ret2
        exact ⟨_, 2, rfl, rfl, H.out, Frm.refl _ _, fun _ => rfl, fun h => absurd h (by decide)⟩
      · have hin' : decide ((n : Int) ≤ i) = false := by simpa using hin
        obtain ⟨k, rfl⟩ : ∃ k : Nat, i = k := ⟨i.toNat, by omega⟩
        have hkn : k < n := by omega
        have hinr : inR n (k : Int) = true := by simp [inR, hkn]
        rw [hinr]
        have hbeg : S.begun true = S.tick := by simp [Dsk.begun, ho]
        have hft := rfault_any H.out
        have hsecT : S.tick.sec k = S.sec k := rfl
        by_cases hk1 : S.kind = 1
        · have h1 : S.ans true = 9 := by simp [Dsk.ans, Dsk.err, ho, hk1]
          have h2 : S.done true = S.tick := by simp [Dsk.done, Dsk.err, Dsk.begun, ho, hk1]
          rw [h1, h2]
          rw [hk1] at hft
          clear ho h1 h2 hi0 hin hk1 hbeg
          go_enter Try.func22, Try.ntmps22
          go_wp2_with (go_at_call 73; refine hft.mono ?_; rintro e w1 ⟨rfl, hrd, hf⟩)
          go_ret2
          exact ⟨_, 9, rfl, rfl, hrd, hf, fun _ => rfl, fun h => absurd h (by decide)⟩
        · by_cases hk2 : S.kind = 2
          · have h1 : S.ans true = 10 := by simp [Dsk.ans, Dsk.err, Dsk.pow, ho, hk2]
            have h2 : S.done true = S.tick.cut := by simp [Dsk.done, Dsk.err, Dsk.pow, Dsk.begun, ho, hk2]
            rw [h1, h2]
            rw [hk2] at hft
            clear ho h1 h2 hi0 hin hk1 hk2 hbeg
            go_enter Try.func22, Try.ntmps22
            go_wp2_with (go_at_call 73; refine hft.mono ?_; rintro e w1 ⟨rfl, hrd, hf⟩; obtain ⟨q1, q2, d1, d2, A', m', c', U1, U2, hy⟩ := hrd; have b4 := hy.e4; have g4 := hy.fr 4; have HY := Lib.hid hy; clear hy)
            go_ret2
            obtain ⟨hcut, hfc⟩ := rcut_cell HY.out
            exact ⟨_, 10, rfl, rfl, ⟨_, _, _, _, _, _, _, _, _, hcut⟩, hf.trans hfc fun b e => .inl (e ▸ HY.out.fa), fun _ => rfl, fun h => absurd h (by decide)⟩
          · have h1 : S.ans true = 0 := by simp [Dsk.ans, Dsk.err, Dsk.pow, ho, hk1, hk2]
            have h2 : S.done true = S.tick := by simp [Dsk.done, Dsk.err, Dsk.pow, Dsk.begun, ho, hk1, hk2]
            rw [h1, h2]
            have hk1' : (S.kind == 1) = false := by simpa using hk1
            have hk2' : (S.kind == 2) = false := by simpa using hk2
            clear ho h1 h2 hi0 hin hk1 hk2 hbeg
            generalize S.kind = kd at hft hk1' hk2'
            obtain ⟨i5, hi5, hz0, hz1, hz2⟩ := info_parts infoU8
            have hb1 : Hid (0 + 64 ≤ maxLen) := by show _ ≤ _; unfold maxLen; omega
            go_enter Try.func22, Try.ntmps22
            go_wp2_with (first
              | (go_at_call 73; refine hft.mono ?_; rintro e w1 ⟨rfl, hrd, hf⟩)
              | (go_at_call 74; refine (rcontent_any (hrd.below ((Below.refl _ _).alloc (Nat.le_refl _) (.cells #[] 5))) k hkn).mono ?_; rintro e w2 ⟨⟨v, rfl, g, cg, rfl, hFg, hog⟩, rfl⟩; have hown := own_empty w1 5; have hhs := hog.has)
              | (at_builtin; refine wpList_app_has _ rfl _ _ 34 (by exact rfl) w1.heap.size 5 i5 (.int .u8 0) 1 tyBs hi5 hz0 hz1 hz2 rfl _ 0 _ (by exact rfl) hown (some ⟨g, 0, none⟩) 64 cg _ _ (by exact rfl) (fun e => by cases e) hhs (one_bytes _) hb1.out (by decide) ((Below.refl w1.heap.size w1).alloc (Nat.le_refl _) (.cells #[] 5)) (Nat.le_refl _) ?_; intro v3 w3 hown3 hb3 _))
            go_ret2
            rw [Nat.zero_add, List.nil_append] at hown3
            obtain ⟨g3, c3, rfl, hg3, ho3⟩ := Own8.of hown3 (by omega)
            have hs1 := hf.size
            exact ⟨_, 0, rfl, rfl, hrd.below hb3, hf.trans' (Frm.of_below hb3), fun h => absurd rfl h, fun _ => ⟨g3, c3, rfl, by omega, ho3⟩⟩
end
end

section
open Go.RowKit

theorem hasF_src {w : World} {F : Nat → Prop} {A : Option Addr} {l : List UInt8} (h : HasF F w A 64 (l.map bv)) : ∃ ad, A = some ad ∧ ∀ j v, (l.map bv)[j]? = some v → w.cell? (ad.add j) = some v := has_src h.has (by rw [h.1]; decide)
theorem write_endR {w v w3 : World} {F : Nat → Prop} {a n : Nat} {S : Dsk} (hf : Frm F w v) (h : RD w3 (fun k => F k ∨ newF v w3 k) a n S) : RD w3 (fun k => F k ∨ newF w w3 k) a n S := by
  have := hf.size
  refine h.more ?_ ?_
  · rintro b (hb | hb)
    · exact .inl hb
    · exact .inr ⟨by have := hb.1; omega, hb.2⟩
  · rintro b (hb | hb)
    · exact h.lt b (.inl hb)
    · exact hb.2
theorem write_endR2 {w v w3 w4 : World} {F G : Nat → Prop} {a n : Nat} {S : Dsk} (hf : Frm F w v) (hf4 : Frm G w3 w4) (h : RD w4 (fun k => F k ∨ newF v w3 k) a n S) : RD w4 (fun k => F k ∨ newF w w4 k) a n S := by
  have := hf.size
  have := hf4.size
  refine h.more ?_ ?_
  · rintro b (hb | hb)
    · exact .inl hb
    · exact .inr ⟨by have := hb.1; omega, by have := hb.2; omega⟩
  · rintro b (hb | hb)
    · exact h.lt b (.inl hb)
    · exact hb.2
/-- A sector put into the cache. -/
theorem rput {D W2 : World} {F : Nat → Prop} {a n k : Nat} {S : Dsk} {q1 q2 d1 d2 m c g1 cap1 : Nat} {A : Option Addr} {V1 V2 : Nat → Value} {l : List UInt8} (h : RDx D F a n S q1 q2 d1 d2 A m c V1 V2) (bd : Below D.heap.size D W2) (hk : k < n)
    (ho : W2.ownsRow D.heap.size 5 1 (.slice (some ⟨g1, 0, none⟩) (0 + 64) cap1) (0 + 64) ([] ++ l.map bv)) (hx : l.length = 64) :
    RD (W2.setCell ⟨q2, k, none⟩ (.slice (some ⟨g1, 0, none⟩) (0 + 64) cap1)) (fun b => F b ∨ newF D (W2.setCell ⟨q2, k, none⟩ (.slice (some ⟨g1, 0, none⟩) (0 + 64) cap1)) b) a n (S.put k l) ∧ Frm F D (W2.setCell ⟨q2, k, none⟩ (.slice (some ⟨g1, 0, none⟩) (0 + 64) cap1)) ∧
      W2.cell? ⟨q2, k, none⟩ = some (V2 k) ∧ W2.frozen? ⟨q2, k, none⟩ = false := by
  have hsz : (W2.setCell ⟨q2, k, none⟩ (.slice (some ⟨g1, 0, none⟩) (0 + 64) cap1)).heap.size = W2.heap.size := by simp [World.setCell]
  have h2 := (h.keep (G := fun _ => False) (Frm.of_below bd) fun _ h => h.elim)
  have h3 := h2.more (G := fun b => F b ∨ newF D W2 b) (fun b hb => .inl hb) fun b hb => hb.elim (h2.lt b) fun h => h.2
  rw [List.nil_append] at ho
  obtain ⟨g, cg, e, hg, hog⟩ := Own8.of ho (by omega)
  have hsl : Sl W2 (fun b => F b ∨ newF D W2 b) (.slice (some ⟨g1, 0, none⟩) (0 + 64) cap1) l := by
    obtain ⟨cur, hr, _⟩ := id hog
    exact ⟨g, cg, e, .inr ⟨hg, hr.lt⟩, hog⟩
  have h4 := h3.set2 hk (v := .slice (some ⟨g1, 0, none⟩) (0 + 64) cap1) (o := some l) hsl fun xs e => by injection e with e; rw [← e]; exact hx
  refine ⟨?_, ?_, h2.row2.cell hk, h2.row2.fr k⟩
  · unfold newF
    rw [hsz]
    exact ⟨_, _, _, _, _, _, _, _, _, h4⟩
  · exact (Frm.of_below bd).trans ((Frm.refl (fun b => b = q2) W2).setCell (p := ⟨q2, k, none⟩) (.inl rfl) _) fun b e => .inl (e ▸ h.f2)

set_option maxRecDepth 20000 in
set_option maxHeartbeats 3200000 in
theorem rwrite_fine {w : World} {F : Nat → Prop} {a n : Nat} {S : Dsk} (h : RD w F a n S) (k : Nat) (hkn : k < n) (A : Option Addr) (cap : Nat) (l : List UInt8) (hA : HasF F w A 64 (l.map bv)) (ho : S.off = false) (kd : Int) (hkd : S.kind = kd) (p : Bool) (hk1' : (kd == 1) = false) (hk2' : (kd == 2) = p) :
    Calls Try.prog 26 #[.pointer (some ⟨a, 0, none⟩), .int .i64 k, .slice A 64 cap] w fun e w' => e = .returned (.int .i64 (if p then 10 else 0)) ∧ RD w' (fun b => F b ∨ newF w w' b) a n ((if p then S.tick.cut else S.tick).put k l) ∧ Frm F w w' := by
  have hft := rfault_any h
  rw [hkd] at hft
  have hx := h
  obtain ⟨r1, r2, c1, c2, A0, m0, c0, V1, V2, hx⟩ := hx
  have c4 := hx.e4
  rw [ho] at c4
  have b0 := hx.e0
  have hn4i : (n : Int) ≤ 4096 := by have := hx.ok.n4; omega
  have hi0' : decide ((k : Int) < 0) = false := by simp
  have hin' : decide ((n : Int) ≤ (k : Int)) = false := by simp; omega
  have hkni : (k : Int) < (n : Int) := by omega
  have HAH := Lib.hid hA
  have hx64 : Hid (l.length = 64) := by show _ = _; simpa using hA.1
  have hl64 : Hid ((l.map bv).length = 64 * 1) := by show _ = _; simpa using hA.1
  have hb1 : Hid (0 + 64 ≤ maxLen) := by show _ ≤ _; unfold maxLen; omega
  obtain ⟨i5, hi5, hz0, hz1, hz2⟩ := info_parts infoU8
  clear hx h ho hkd hA
  go_enter Try.func26, Try.ntmps26
  go_wp2_with (go_at_call 73; refine hft.mono ?_; rintro e w1 ⟨rfl, hrd, hf⟩; have hrd' := hrd.below ((Below.refl _ _).drew); have hf' := hf.drew; clear hrd hf)
  refine wp_region_any (by kernel_rfl) ?_
  change wpAny _ _ _ _ _ _ _ (World.drew _)
  generalize World.drew w1 = D at *
  obtain ⟨q1, q2, d1, d2, A', m', c', U1, U2, hy⟩ := hrd'
  have HY := Lib.hid hy
  have HF1 := Lib.hid hf'
  have b1c : D.cell? ⟨a, 1, none⟩ = some (.slice (some ⟨q2, 0, none⟩) n d2) := hy.e1
  have HA := Lib.hid (HAH.out.keep hf' (G := F) fun _ h => .inl h)
  have bd0 : Below D.heap.size D D := Below.refl _ _
  clear hy hf' HAH b0 c4 hft
  have hrest : True := trivial
  refine any_take (i := 0) (v := ?_) rfl (by kernel_rfl) (by kernel_rfl) (by kernel_rfl) (fun _ _ _ h => h) (by exact rfl) (by intro w; go_simp; try with_reducible rfl) (fun K hK => ?_); go_simp; refine hK _ _ ?_; clear hK K
  refine any_take (i := 1) (v := ?_) rfl (by kernel_rfl) (by kernel_rfl) (by kernel_rfl) (fun _ _ _ h => h) (by exact rfl) (by intro w; go_simp; try with_reducible rfl) (fun K hK => ?_); go_simp; refine hK _ _ ?_; clear hK K
  refine any_take (i := 2) (v := ?_) rfl (by kernel_rfl) (by kernel_rfl) (by kernel_rfl) (fun _ _ _ h => h) (by exact rfl) (by intro w; go_simp; try with_reducible rfl) (fun K hK => ?_); go_simp; refine hK _ _ ?_; clear hK K
  refine any_take (i := 4) (v := ?_) rfl (by kernel_rfl) (by kernel_rfl) (by kernel_rfl) (fun _ _ _ h => h) (by exact rfl) (by intro w; go_simp; try with_reducible rfl) (fun K hK => ?_); go_simp; refine hK _ _ ?_; clear hK K
  refine any_take (i := 6) (v := ?_) rfl (by kernel_rfl) (by kernel_rfl) (by kernel_rfl) (fun _ _ _ h => h) (by exact rfl) (by intro w; go_simp; try with_reducible rfl) (fun K hK => ?_); go_simp; refine hK _ _ ?_; clear hK K
  refine wpAny_ready (rs := [3, 5]) (by kernel_rfl) (by simp) ?_
  refine AllReady.cons rfl (fun K hK => ?_) (AllReady.cons rfl (fun K hK => ?_) AllReady.nil)
  · go_simp
    refine hK _ _ ?_
    clear hK K b1c
    refine wpAny_ready (rs := [5]) (by kernel_rfl) (by simp) ?_
    refine AllReady.cons rfl (fun K hK => ?_) AllReady.nil
    go_simp
    refine hK _ _ ?_
    clear hK K
    have hown1 := own_empty D 5
    have bd1 := bd0.alloc bd0.size (.cells #[] 5)
    have hs1 : D.heap.size ≤ (D.alloc (.cells #[] 5)).heap.size := by simp
    have hsrc1 := hasF_src (HA.out.keep (Frm.of_below bd1) fun b h => .inl h)
    generalize D.alloc (.cells #[] 5) = W1 at *
    refine wpAny_ready (rs := [7]) (by kernel_rfl) (by simp) ?_
    refine AllReady.cons rfl (fun K hK => ?_) AllReady.nil
    obtain ⟨ad, rfl, hsr⟩ := hsrc1
    refine step_append_lies _ rfl _ _ 34 (by exact rfl) D.heap.size 5 i5 (.int .u8 0) 1 1 tyBs hi5 hz0 hz1 hz2 rfl (by decide) _ 0 [] (by exact rfl) hown1 ad 64 cap (l.map bv) (by exact rfl) hl64.out hsr (one_bytes _) (by decide) hb1.out (by decide) bd1.size _ rfl ?_
    intro g1 cap1 W2 hown2 hgr2 hgg _
    refine hK _ _ ?_
    clear hK K hsr
    have bd2 := bd1.grown hgr2 bd1.size (fun z e => Nat.le_of_eq (Option.some.inj e))
    clear hown1 hgr2
    refine any_take (i := 8) (v := ?_) rfl (by kernel_rfl) (by kernel_rfl) (by kernel_rfl) (fun _ _ _ h => h) (by exact rfl) (by intro w; go_simp; try with_reducible rfl) (fun K hK => ?_); go_simp; refine hK _ _ ?_; clear hK K
    refine wpAny_ready (rs := [9]) (by kernel_rfl) (by simp) ?_
    refine AllReady.cons rfl (fun K hK => ?_) AllReady.nil
    obtain ⟨hset, hfr, hce, hfz⟩ := rput HY.out bd2 hkn hown2 hx64.out
    go_simp
    refine hK _ _ ?_
    clear hK K
    generalize W2.setCell ⟨q2, k, none⟩ (.slice (some ⟨g1, 0, none⟩) (0 + 64) cap1) = W3 at *
    cases p
    · refine wpAny_done (by kernel_rfl) ?_ _
      go_wp2
      go_ret
      exact ⟨rfl, write_endR HF1.out hset, HF1.out.trans' hfr⟩
    · refine wpAny_done (by kernel_rfl) ?_ _
      obtain ⟨s1, s2, t1, t2, A', m', c', U1, U2, hz⟩ := hset
      have b4 := hz.e4
      have g4 := hz.fr 4
      have HZ := Lib.hid hz
      clear hz
      go_wp2
      go_ret
      obtain ⟨hcut, hfc⟩ := rcut_cell HZ.out
      exact ⟨rfl, write_endR2 HF1.out hfc ⟨_, _, _, _, _, _, _, _, _, hcut⟩, (HF1.out.trans' hfr).trans hfc fun b e => by subst e; exact HZ.out.fa.elim .inl fun h => .inr (Nat.le_trans HF1.out.size h.1)⟩
  · go_simp
    refine hK _ _ ?_
    clear hK K
    have hown1 := own_empty D 5
    have bd1 := bd0.alloc bd0.size (.cells #[] 5)
    have hs1 : D.heap.size ≤ (D.alloc (.cells #[] 5)).heap.size := by simp
    have hsrc1 := hasF_src (HA.out.keep (Frm.of_below bd1) fun b h => .inl h)
    generalize D.alloc (.cells #[] 5) = W1 at *
    have b1c : W1.cell? ⟨a, 1, none⟩ = some (.slice (some ⟨q2, 0, none⟩) n d2) := (bd1.cell (p := ⟨a, 1, none⟩) (HY.out.lt a HY.out.fa)).trans HY.out.e1
    refine wpAny_ready (rs := [3, 7]) (by kernel_rfl) (by simp) ?_
    refine AllReady.cons rfl (fun K hK => ?_) (AllReady.cons rfl (fun K hK => ?_) AllReady.nil)
    · go_simp
      refine hK _ _ ?_
      clear hK K b1c
      refine wpAny_ready (rs := [7]) (by kernel_rfl) (by simp) ?_
      refine AllReady.cons rfl (fun K hK => ?_) AllReady.nil
      obtain ⟨ad, rfl, hsr⟩ := hsrc1
      refine step_append_lies _ rfl _ _ 34 (by exact rfl) D.heap.size 5 i5 (.int .u8 0) 1 1 tyBs hi5 hz0 hz1 hz2 rfl (by decide) _ 0 [] (by exact rfl) hown1 ad 64 cap (l.map bv) (by exact rfl) hl64.out hsr (one_bytes _) (by decide) hb1.out (by decide) bd1.size _ rfl ?_
      intro g1 cap1 W2 hown2 hgr2 hgg _
      refine hK _ _ ?_
      clear hK K hsr
      have bd2 := bd1.grown hgr2 bd1.size (fun z e => Nat.le_of_eq (Option.some.inj e))
      clear hown1 hgr2
      refine any_take (i := 8) (v := ?_) rfl (by kernel_rfl) (by kernel_rfl) (by kernel_rfl) (fun _ _ _ h => h) (by exact rfl) (by intro w; go_simp; try with_reducible rfl) (fun K hK => ?_); go_simp; refine hK _ _ ?_; clear hK K
      refine wpAny_ready (rs := [9]) (by kernel_rfl) (by simp) ?_
      refine AllReady.cons rfl (fun K hK => ?_) AllReady.nil
      obtain ⟨hset, hfr, hce, hfz⟩ := rput HY.out bd2 hkn hown2 hx64.out
      go_simp
      refine hK _ _ ?_
      clear hK K
      generalize W2.setCell ⟨q2, k, none⟩ (.slice (some ⟨g1, 0, none⟩) (0 + 64) cap1) = W3 at *
      cases p
      · refine wpAny_done (by kernel_rfl) ?_ _
        go_wp2
        go_ret
        exact ⟨rfl, write_endR HF1.out hset, HF1.out.trans' hfr⟩
      · refine wpAny_done (by kernel_rfl) ?_ _
        obtain ⟨s1, s2, t1, t2, A', m', c', U1, U2, hz⟩ := hset
        have b4 := hz.e4
        have g4 := hz.fr 4
        have HZ := Lib.hid hz
        clear hz
        go_wp2
        go_ret
        obtain ⟨hcut, hfc⟩ := rcut_cell HZ.out
        exact ⟨rfl, write_endR2 HF1.out hfc ⟨_, _, _, _, _, _, _, _, _, hcut⟩, (HF1.out.trans' hfr).trans hfc fun b e => by subst e; exact HZ.out.fa.elim .inl fun h => .inr (Nat.le_trans HF1.out.size h.1)⟩
    · obtain ⟨ad, rfl, hsr⟩ := hsrc1
      refine step_append_lies _ rfl _ _ 34 (by exact rfl) D.heap.size 5 i5 (.int .u8 0) 1 1 tyBs hi5 hz0 hz1 hz2 rfl (by decide) _ 0 [] (by exact rfl) hown1 ad 64 cap (l.map bv) (by exact rfl) hl64.out hsr (one_bytes _) (by decide) hb1.out (by decide) bd1.size _ rfl ?_
      intro g1 cap1 W2 hown2 hgr2 hgg _
      refine hK _ _ ?_
      clear hK K hsr
      have bd2 := bd1.grown hgr2 bd1.size (fun z e => Nat.le_of_eq (Option.some.inj e))
      clear hown1 hgr2
      have b1c : W2.cell? ⟨a, 1, none⟩ = some (.slice (some ⟨q2, 0, none⟩) n d2) := (bd2.cell (p := ⟨a, 1, none⟩) (HY.out.lt a HY.out.fa)).trans HY.out.e1
      refine wpAny_ready (rs := [3]) (by kernel_rfl) (by simp) ?_
      refine AllReady.cons rfl (fun K hK => ?_) AllReady.nil
      go_simp
      refine hK _ _ ?_
      clear hK K b1c
      refine any_take (i := 8) (v := ?_) rfl (by kernel_rfl) (by kernel_rfl) (by kernel_rfl) (fun _ _ _ h => h) (by exact rfl) (by intro w; go_simp; try with_reducible rfl) (fun K hK => ?_); go_simp; refine hK _ _ ?_; clear hK K
      refine wpAny_ready (rs := [9]) (by kernel_rfl) (by simp) ?_
      refine AllReady.cons rfl (fun K hK => ?_) AllReady.nil
      obtain ⟨hset, hfr, hce, hfz⟩ := rput HY.out bd2 hkn hown2 hx64.out
      go_simp
      refine hK _ _ ?_
      clear hK K
      generalize W2.setCell ⟨q2, k, none⟩ (.slice (some ⟨g1, 0, none⟩) (0 + 64) cap1) = W3 at *
      cases p
      · refine wpAny_done (by kernel_rfl) ?_ _
        go_wp2
        go_ret
        exact ⟨rfl, write_endR HF1.out hset, HF1.out.trans' hfr⟩
      · refine wpAny_done (by kernel_rfl) ?_ _
        obtain ⟨s1, s2, t1, t2, A', m', c', U1, U2, hz⟩ := hset
        have b4 := hz.e4
        have g4 := hz.fr 4
        have HZ := Lib.hid hz
        clear hz
        go_wp2
        go_ret
        obtain ⟨hcut, hfc⟩ := rcut_cell HZ.out
        exact ⟨rfl, write_endR2 HF1.out hfc ⟨_, _, _, _, _, _, _, _, _, hcut⟩, (HF1.out.trans' hfr).trans hfc fun b e => by subst e; exact HZ.out.fa.elim .inl fun h => .inr (Nat.le_trans HF1.out.size h.1)⟩
end

end Go.Proofs.Ytbcfjkfkkklgbaa
