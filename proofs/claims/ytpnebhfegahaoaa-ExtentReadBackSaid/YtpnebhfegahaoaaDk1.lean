/-
  The program's disk in memory ('PD'), and the contracts of its small methods.
-/
import Derived.Test.YtpnebhfegahaoaaDkP
import Derived.Test.YtpnebhfegahaoaaFrm
import Derived.Test.YtpnebhfegahaoaaMkB
namespace Go.Proofs.Ytpnebhfegahaoaa
open Go.RowKit

/-- The faults of a disk, in a block of their own. -/
def FltAt (w : World) (F : Nat → Prop) (A : Option Addr) (m : Nat) (fs : List (Int × Int)) : Prop :=
  fs.length = m ∧ (0 < m → ∃ b cur, A = some ⟨b, 0, none⟩ ∧ F b ∧ w.heap[b]? = some (.cells cur 62 (0, 0)) ∧
    ∀ j (h : j < fs.length), cur[j * 2]? = some (.int .i64 fs[j].1) ∧ cur[j * 2 + 1]? = some (.int .i64 fs[j].2))

structure PDx (w : World) (F : Nat → Prop) (a n : Nat) (S : Dsk) (sb mb : Nat) (A : Option Addr) (m c : Nat) (D : DataW Value) : Prop where
  ok : S.Ok n
  cells : w.heap[a]? = some (.cells #[.slice (some ⟨sb, 0, none⟩) (64 * n) (64 * n), .map (some mb), .slice A m c, .int .i64 S.cnt, .bool S.off] 86 (0, 0))
  row : w.heap[sb]? = some (.cells ((flat n S.st).map bv).toArray 5 (0, 0))
  map : w.ownsMap Try.prog 3 heldR mb 4096 D
  has : ∀ x : Int, Maps.has D (.int .i64 x) = true ↔ ∃ i : Nat, x = i ∧ (S.ca i).isSome
  val : ∀ (i : Nat) xs, S.ca i = some xs → ∃ g, (∀ zd, D.atKey (.int .i64 i) zd = .held (.slice (some ⟨g, 0, none⟩) 64 64)) ∧ F g ∧ g ≠ sb ∧ w.heap[g]? = some (.cells (xs.map bv).toArray 5 (0, 0))
  flt : FltAt w F A m S.fs
  m64 : m ≤ 64
  fa : F a
  fs : F sb
  fm : F mb
  lt : ∀ k, F k → k < w.heap.size
/-- At block a stands a disk of n sectors; all its blocks are of F. -/
def PD (w : World) (F : Nat → Prop) (a n : Nat) (S : Dsk) : Prop := ∃ sb mb A m c D, PDx w F a n S sb mb A m c D

theorem FltAt.keep {w w' : World} {F : Nat → Prop} {A : Option Addr} {m : Nat} {fs : List (Int × Int)} (h : FltAt w F A m fs) (hk : ∀ b o, F b → w.heap[b]? = some o → w'.heap[b]? = some o) : FltAt w' F A m fs :=
  ⟨h.1, fun h0 => by
    obtain ⟨b, cur, e, hb, hc, r⟩ := h.2 h0
    exact ⟨b, cur, e, hb, hk b _ hb hc, r⟩⟩
/-- What turns none of its blocks leaves a disk as it was. -/
theorem PD.keep {w w' : World} {F G : Nat → Prop} {a n : Nat} {S : Dsk} (h : PD w F a n S) (hf : Frm G w w') (hG : ∀ b, G b → F b → False) : PD w' F a n S := by
  obtain ⟨sb, mb, A, m, c, D, h⟩ := h
  have hk : ∀ b o, F b → w.heap[b]? = some o → w'.heap[b]? = some o := fun b o hb ho => hf.obj ho fun hg => hG b hg hb
  exact ⟨sb, mb, A, m, c, D, h.ok, hk _ _ h.fa h.cells, hk _ _ h.fs h.row, maps_frm h.map hf fun hg => hG _ hg h.fm, h.has, fun i xs hi => by
    obtain ⟨g, h1, h2, h3, h4⟩ := h.val i xs hi
    exact ⟨g, h1, h2, h3, hk _ _ h2 h4⟩, h.flt.keep hk, h.m64, h.fa, h.fs, h.fm, fun k hk' => by have := h.lt k hk'; have := hf.size; omega⟩
theorem PD.below {w w' : World} {F : Nat → Prop} {a n : Nat} {S : Dsk} (h : PD w F a n S) (hb : Below w.heap.size w w') : PD w' F a n S :=
  h.keep (G := fun _ => False) (Frm.of_below hb) fun _ hf => hf.elim
theorem PD.ok {w : World} {F : Nat → Prop} {a n : Nat} {S : Dsk} (h : PD w F a n S) : S.Ok n := by obtain ⟨_, _, _, _, _, _, h⟩ := h; exact h.ok
theorem PD.lt {w : World} {F : Nat → Prop} {a n : Nat} {S : Dsk} (h : PD w F a n S) : ∀ k, F k → k < w.heap.size := by obtain ⟨_, _, _, _, _, _, h⟩ := h; exact h.lt
/-- The disk with more blocks. -/
theorem PD.more {w : World} {F G : Nat → Prop} {a n : Nat} {S : Dsk} (h : PD w F a n S) (hG : ∀ b, F b → G b) (hl : ∀ b, G b → b < w.heap.size) : PD w G a n S := by
  obtain ⟨sb, mb, A, m, c, D, h⟩ := h
  exact ⟨sb, mb, A, m, c, D, h.ok, h.cells, h.row, h.map, h.has, fun i xs hi => by
    obtain ⟨g, h1, h2, h3, h4⟩ := h.val i xs hi
    exact ⟨g, h1, hG _ h2, h3, h4⟩, ⟨h.flt.1, fun h0 => by
    obtain ⟨b, cur, e, hb, r⟩ := h.flt.2 h0
    exact ⟨b, cur, e, hG _ hb, r⟩⟩, h.m64, hG _ h.fa, hG _ h.fs, hG _ h.fm, hl⟩

section
variable {w : World} {F : Nat → Prop} {a n : Nat} {S : Dsk} {sb mb m c : Nat} {A : Option Addr} {D : DataW Value}
theorem PDx.c0 (h : PDx w F a n S sb mb A m c D) : w.cell? ⟨a, 0, none⟩ = some (.slice (some ⟨sb, 0, none⟩) (64 * n) (64 * n)) := cell_of_row w a 0 _ _ _ h.cells
theorem PDx.c1 (h : PDx w F a n S sb mb A m c D) : w.cell? ⟨a, 1, none⟩ = some (.map (some mb)) := cell_of_row w a 1 _ _ _ h.cells
theorem PDx.c2 (h : PDx w F a n S sb mb A m c D) : w.cell? ⟨a, 2, none⟩ = some (.slice A m c) := cell_of_row w a 2 _ _ _ h.cells
theorem PDx.c3 (h : PDx w F a n S sb mb A m c D) : w.cell? ⟨a, 3, none⟩ = some (.int .i64 S.cnt) := cell_of_row w a 3 _ _ _ h.cells
theorem PDx.c4 (h : PDx w F a n S sb mb A m c D) : w.cell? ⟨a, 4, none⟩ = some (.bool S.off) := cell_of_row w a 4 _ _ _ h.cells
theorem PDx.fr (h : PDx w F a n S sb mb A m c D) (j : Nat) : w.frozen? ⟨a, j, none⟩ = false := by simp [World.frozen?, h.cells]
end
/-- One field of the disk was written. -/
theorem set_field {w : World} {a j : Nat} {cs : Array Value} {t : TypeId} {v : Value} (h : w.heap[a]? = some (.cells cs t (0, 0))) : (w.setCell ⟨a, j, none⟩ v).heap[a]? = some (.cells (cs.setIfInBounds j v) t (0, 0)) := by
  rw [setCell_eq_setRow w a j cs _ (0, 0) _ h]
  exact setRow_heap w a cs _ _ _ h
/-- The disk behind a write of fields that leaves the other blocks as they were. -/
theorem PDx.fields {w w' : World} {F : Nat → Prop} {a n : Nat} {S S' : Dsk} {sb mb m c : Nat} {A : Option Addr} {D : DataW Value} (h : PDx w F a n S sb mb A m c D)
    (hf : Frm (fun b => b = a) w w') (hok : S'.Ok n) (hst : S'.st = S.st) (hca : S'.ca = S.ca) (hfs : S'.fs = S.fs)
    (hc : w'.heap[a]? = some (.cells #[.slice (some ⟨sb, 0, none⟩) (64 * n) (64 * n), .map (some mb), .slice A m c, .int .i64 S'.cnt, .bool S'.off] 86 (0, 0))) : PDx w' F a n S' sb mb A m c D := by
  have hne : ∀ (b : Nat) (o : Obj), w.heap[b]? = some o → o ≠ Obj.cells #[.slice (some ⟨sb, 0, none⟩) (64 * n) (64 * n), .map (some mb), .slice A m c, .int .i64 S.cnt, .bool S.off] 86 (0, 0) → w'.heap[b]? = some o := by
    intro b o ho hn
    refine hf.obj ho fun e => hn ?_
    subst e
    rw [h.cells] at ho
    exact (Option.some.inj ho).symm
  have hmb : mb ≠ a := by
    rintro rfl
    obtain ⟨es, clock, hb, _⟩ := h.map
    rw [h.cells] at hb
    cases hb
  refine ⟨hok, hc, ?_, maps_frm h.map hf hmb, by rw [hca]; exact h.has, by
    rw [hca]
    intro i xs hi
    obtain ⟨g, h1, h2, h3, h4⟩ := h.val i xs hi
    exact ⟨g, h1, h2, h3, hne _ _ h4 (by intro e; injection e with _ e _; cases e)⟩, ?_, h.m64, h.fa, h.fs, h.fm, fun k hk => by have := h.lt k hk; have := hf.size; omega⟩
  · rw [hst]
    exact hne _ _ h.row (by intro e; injection e with _ e _; cases e)
  · rw [hfs]
    exact ⟨h.flt.1, fun h0 => by
      obtain ⟨b, cur, e, hb, hc', r⟩ := h.flt.2 h0
      exact ⟨b, cur, e, hb, hne _ _ hc' (by intro e; injection e with _ e _; cases e), r⟩⟩

set_option maxHeartbeats 400000 in
theorem sectors_nil (w : World) : Calls Try.prog 62 #[.pointer none] w fun e w' => e = .returned (.int .i64 0) ∧ w = w' := by
  go_enter Try.func62, Try.ntmps62
  go_wp2
  go_ret
  exact ⟨rfl, rfl⟩
set_option maxHeartbeats 400000 in
theorem sectors_any {w : World} {F : Nat → Prop} {a n : Nat} {S : Dsk} (h : PD w F a n S) : Calls Try.prog 62 #[.pointer (some ⟨a, 0, none⟩)] w fun e w' => e = .returned (.int .i64 n) ∧ w = w' := by
  obtain ⟨sb, mb, A, m, c, D, h⟩ := h
  have c0 := h.c0
  have hn := h.ok.n4
  clear h
  have hq : Hid (Int.tdiv ((64 * n : Nat) : Int) 64 = n) := by show _ = _; rw [Int.tdiv_eq_ediv_of_nonneg (by omega)]; omega
  obtain ⟨L, hL⟩ : ∃ L, L = 64 * n := ⟨_, rfl⟩
  rw [← hL] at c0 hq
  have hL' := Lib.hid hL
  clear hL
  have hq' := hq.out
  have hwn : wrap64 (n : Int) = n := by unfold wrap64; omega
  go_enter Try.func62, Try.ntmps62
  go_wp2
  go_ret
  exact ⟨ret_int (by first | exact hq.out | rfl), rfl⟩

end Go.Proofs.Ytpnebhfegahaoaa
