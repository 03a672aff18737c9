/-
The program's disk in memory ('PD'), and the contracts of its small methods.
Contracts of copied, possible, diskOf, New, Load, Image.
Contracts of diskOf, New, Load, Image.
Contracts of Off, Cut, contains, arm, storedSector.
Contracts of armedKind and begin.
A log on a disk that meets no fault, as plain data. No program.
Contracts of the step of the checksum, of package crc and of its reference.
-/
import Derived.Test.YtbcfjkfkkklgbaaB00
import Derived.Test.YtbcfjkfkkklgbaaB02
import Derived.Test.YtbcfjkfkkklgbaaB04
import Derived.Test.YtbcfjkfkkklgbaaB01
import Derived.Test.YtbcfjkfkkklgbaaRows
import Derived.Laws.BitsAll
import Derived.Laws.ShiftsVar
import Derived.BigQuiet
import Derived.Deep.QuietTactic
import Derived.WalkSmall
namespace Go.Proofs.Ytbcfjkfkkklgbaa
section
section
open Go.RowKit

/-- The faults of a disk, in a block of their own. -/
def FltAt (w : World) (F : Nat → Prop) (A : Option Addr) (m : Nat) (fs : List (Int × Int)) : Prop :=
  fs.length = m ∧ (0 < m → ∃ b cur, A = some ⟨b, 0, none⟩ ∧ F b ∧ w.heap[b]? = some (.cells cur 91 (0, 0)) ∧
    ∀ j (h : j < fs.length), cur[j * 2]? = some (.int .i64 fs[j].1) ∧ cur[j * 2 + 1]? = some (.int .i64 fs[j].2))

structure PDx (w : World) (F : Nat → Prop) (a n : Nat) (S : Dsk) (sb mb : Nat) (A : Option Addr) (m c : Nat) (D : DataW Value) : Prop where
  ok : S.Ok n
  cells : w.heap[a]? = some (.cells #[.slice (some ⟨sb, 0, none⟩) (64 * n) (64 * n), .map (some mb), .slice A m c, .int .i64 S.cnt, .bool S.off] 98 (0, 0))
  row : w.heap[sb]? = some (.cells ((flat n S.st).map bv).toArray 5 (0, 0))
  map : w.ownsMap Try.prog 3 heldR mb 4096 D
  has : ∀ x : Int, Maps.has D (.int .i64 x) = true ↔ ∃ i : Nat, x = i ∧ (S.ca i).isSome
  val : ∀ (i : Nat) xs, S.ca i = some xs → ∃ g, (∀ zd, D.atKey (.int .i64 i) zd = .held (.slice (some ⟨g, 0, none⟩) 64 64)) ∧ F g ∧ g ≠ sb ∧ w.heap[g]? = some (.cells (xs.map bv).toArray 5 (0, 0))
  flt : FltAt w F A m S.fs
  m64 : m ≤ 64
  fa : F a
  fs : F sb
  fm : F mb
  lt : ∀ k, F k → k < w.heap.size
/-- At block a stands a disk of n sectors; all its blocks are of F. -/
def PD (w : World) (F : Nat → Prop) (a n : Nat) (S : Dsk) : Prop := ∃ sb mb A m c D, PDx w F a n S sb mb A m c D

theorem FltAt.keep {w w' : World} {F : Nat → Prop} {A : Option Addr} {m : Nat} {fs : List (Int × Int)} (h : FltAt w F A m fs) (hk : ∀ b o, F b → w.heap[b]? = some o → w'.heap[b]? = some o) : FltAt w' F A m fs :=
  ⟨h.1, fun h0 => by
    obtain ⟨b, cur, e, hb, hc, r⟩ := h.2 h0
    exact ⟨b, cur, e, hb, hk b _ hb hc, r⟩⟩
/-- What turns none of its blocks leaves a disk as it was. -/
theorem PD.keep {w w' : World} {F G : Nat → Prop} {a n : Nat} {S : Dsk} (h : PD w F a n S) (hf : Frm G w w') (hG : ∀ b, G b → F b → False) : PD w' F a n S := by
  obtain ⟨sb, mb, A, m, c, D, h⟩ := h
  have hk : ∀ b o, F b → w.heap[b]? = some o → w'.heap[b]? = some o := fun b o hb ho => hf.obj ho fun hg => hG b hg hb
  exact ⟨sb, mb, A, m, c, D, h.ok, hk _ _ h.fa h.cells, hk _ _ h.fs h.row, maps_frm h.map hf fun hg => hG _ hg h.fm, h.has, fun i xs hi => by
    obtain ⟨g, h1, h2, h3, h4⟩ := h.val i xs hi
    exact ⟨g, h1, h2, h3, hk _ _ h2 h4⟩, h.flt.keep hk, h.m64, h.fa, h.fs, h.fm, fun k hk' => by have := h.lt k hk'; have := hf.size; omega⟩
theorem PD.below {w w' : World} {F : Nat → Prop} {a n : Nat} {S : Dsk} (h : PD w F a n S) (hb : Below w.heap.size w w') : PD w' F a n S :=
  h.keep (G := fun _ => False) (Frm.of_below hb) fun _ hf => hf.elim
theorem PD.ok {w : World} {F : Nat → Prop} {a n : Nat} {S : Dsk} (h : PD w F a n S) : S.Ok n := by obtain ⟨_, _, _, _, _, _, h⟩ := h; exact h.ok
theorem PD.lt {w : World} {F : Nat → Prop} {a n : Nat} {S : Dsk} (h : PD w F a n S) : ∀ k, F k → k < w.heap.size := by obtain ⟨_, _, _, _, _, _, h⟩ := h; exact h.lt
/-- The disk with more blocks. -/
theorem PD.more {w : World} {F G : Nat → Prop} {a n : Nat} {S : Dsk} (h : PD w F a n S) (hG : ∀ b, F b → G b) (hl : ∀ b, G b → b < w.heap.size) : PD w G a n S := by
  obtain ⟨sb, mb, A, m, c, D, h⟩ := h
  exact ⟨sb, mb, A, m, c, D, h.ok, h.cells, h.row, h.map, h.has, fun i xs hi => by
    obtain ⟨g, h1, h2, h3, h4⟩ := h.val i xs hi
    exact ⟨g, h1, hG _ h2, h3, h4⟩, ⟨h.flt.1, fun h0 => by
    obtain ⟨b, cur, e, hb, r⟩ := h.flt.2 h0
    exact ⟨b, cur, e, hG _ hb, r⟩⟩, h.m64, hG _ h.fa, hG _ h.fs, hG _ h.fm, hl⟩

section
variable {w : World} {F : Nat → Prop} {a n : Nat} {S : Dsk} {sb mb m c : Nat} {A : Option Addr} {D : DataW Value}
theorem PDx.c0 (h : PDx w F a n S sb mb A m c D) : w.cell? ⟨a, 0, none⟩ = some (.slice (some ⟨sb, 0, none⟩) (64 * n) (64 * n)) := cell_of_row w a 0 _ _ _ h.cells
theorem PDx.c1 (h : PDx w F a n S sb mb A m c D) : w.cell? ⟨a, 1, none⟩ = some (.map (some mb)) := cell_of_row w a 1 _ _ _ h.cells
theorem PDx.c2 (h : PDx w F a n S sb mb A m c D) : w.cell? ⟨a, 2, none⟩ = some (.slice A m c) := cell_of_row w a 2 _ _ _ h.cells
theorem PDx.c3 (h : PDx w F a n S sb mb A m c D) : w.cell? ⟨a, 3, none⟩ = some (.int .i64 S.cnt) := cell_of_row w a 3 _ _ _ h.cells
theorem PDx.c4 (h : PDx w F a n S sb mb A m c D) : w.cell? ⟨a, 4, none⟩ = some (.bool S.off) := cell_of_row w a 4 _ _ _ h.cells
theorem PDx.fr (h : PDx w F a n S sb mb A m c D) (j : Nat) : w.frozen? ⟨a, j, none⟩ = false := by simp [World.frozen?, h.cells]
end
/-- One field of the disk was written. -/
theorem set_field {w : World} {a j : Nat} {cs : Array Value} {t : TypeId} {v : Value} (h : w.heap[a]? = some (.cells cs t (0, 0))) : (w.setCell ⟨a, j, none⟩ v).heap[a]? = some (.cells (cs.setIfInBounds j v) t (0, 0)) := by
  rw [setCell_eq_setRow w a j cs _ (0, 0) _ h]
  exact setRow_heap w a cs _ _ _ h
/-- The disk behind a write of fields that leaves the other blocks as they were. -/
theorem PDx.fields {w w' : World} {F : Nat → Prop} {a n : Nat} {S S' : Dsk} {sb mb m c : Nat} {A : Option Addr} {D : DataW Value} (h : PDx w F a n S sb mb A m c D)
    (hf : Frm (fun b => b = a) w w') (hok : S'.Ok n) (hst : S'.st = S.st) (hca : S'.ca = S.ca) (hfs : S'.fs = S.fs)
    (hc : w'.heap[a]? = some (.cells #[.slice (some ⟨sb, 0, none⟩) (64 * n) (64 * n), .map (some mb), .slice A m c, .int .i64 S'.cnt, .bool S'.off] 98 (0, 0))) : PDx w' F a n S' sb mb A m c D := by
  have hne : ∀ (b : Nat) (o : Obj), w.heap[b]? = some o → o ≠ Obj.cells #[.slice (some ⟨sb, 0, none⟩) (64 * n) (64 * n), .map (some mb), .slice A m c, .int .i64 S.cnt, .bool S.off] 98 (0, 0) → w'.heap[b]? = some o := by
    intro b o ho hn
    refine hf.obj ho fun e => hn ?_
    subst e
    rw [h.cells] at ho
    exact (Option.some.inj ho).symm
  have hmb : mb ≠ a := by
    rintro rfl
    obtain ⟨es, clock, hb, _⟩ := h.map
    rw [h.cells] at hb
    cases hb
  refine ⟨hok, hc, ?_, maps_frm h.map hf hmb, by rw [hca]; exact h.has, by
    rw [hca]
    intro i xs hi
    obtain ⟨g, h1, h2, h3, h4⟩ := h.val i xs hi
    exact ⟨g, h1, h2, h3, hne _ _ h4 (by intro e; injection e with _ e _; cases e)⟩, ?_, h.m64, h.fa, h.fs, h.fm, fun k hk => by have := h.lt k hk; have := hf.size; omega⟩
  · rw [hst]
    exact hne _ _ h.row (by intro e; injection e with _ e _; cases e)
  · rw [hfs]
    exact ⟨h.flt.1, fun h0 => by
      obtain ⟨b, cur, e, hb, hc', r⟩ := h.flt.2 h0
      exact ⟨b, cur, e, hb, hne _ _ hc' (by intro e; injection e with _ e _; cases e), r⟩⟩

set_option maxHeartbeats 400000 in
theorem sectors_nil (w : World) : Calls Try.prog 66 #[.pointer none] w fun e w' => e = .returned (.int .i64 0) ∧ w = w' := by
  go_enter Try.func66, Try.ntmps66
  go_wp2
  go_ret
  exact ⟨rfl, rfl⟩
set_option maxHeartbeats 400000 in
theorem sectors_any {w : World} {F : Nat → Prop} {a n : Nat} {S : Dsk} (h : PD w F a n S) : Calls Try.prog 66 #[.pointer (some ⟨a, 0, none⟩)] w fun e w' => e = .returned (.int .i64 n) ∧ w = w' := by
  obtain ⟨sb, mb, A, m, c, D, h⟩ := h
  have c0 := h.c0
  have hn := h.ok.n4
  clear h
  have hq : Hid (Int.tdiv ((64 * n : Nat) : Int) 64 = n) := by show _ = _; rw [Int.tdiv_eq_ediv_of_nonneg (by omega)]; omega
  obtain ⟨L, hL⟩ : ∃ L, L = 64 * n := ⟨_, rfl⟩
  rw [← hL] at c0 hq
  have hL' := Lib.hid hL
  clear hL
  have hq' := hq.out
  have hwn : wrap64 (n : Int) = n := by unfold wrap64; omega
  go_enter Try.func66, Try.ntmps66
  go_wp2
  go_ret
  exact ⟨ret_int (by first | exact hq.out | rfl), rfl⟩
end

section
open Go.RowKit

theorem szU8 : (Try.prog.info? 5).map (·.size) = some 1 := by kernel_rfl
def possB (s : Int) : Bool := decide (1 ≤ s) && decide (s ≤ 4096)
set_option maxHeartbeats 400000 in
theorem possible_any (s : Int) (w : World) : Calls Try.prog 61 #[.int .i64 s] w fun e w' => e = .returned (.bool (possB s)) ∧ w = w' := by
  by_cases h : 1 ≤ s
  · have hp : possB s = decide (s ≤ 4096) := by simp [possB, h]
    have hp' := Lib.hid hp
    clear hp
    go_enter Try.func61, Try.ntmps61
    go_wp2
    go_ret
    exact ⟨ret_bool (by rw [hp'.out]), rfl⟩
  · have hp : possB s = false := by simp [possB, h]
    have hp' := Lib.hid hp
    clear hp
    go_enter Try.func61, Try.ntmps61
    go_wp2
    go_ret
    exact ⟨ret_bool (by rw [hp'.out]), rfl⟩

theorem has_src {w : World} {B n : Nat} {A : Option Addr} {xs : List Value} (h : Has w B A n xs) (h0 : 0 < xs.length) : ∃ ad, A = some ad ∧ ∀ j v, xs[j]? = some v → w.cell? (ad.add j) = some v := by
  obtain ⟨b, off, e, hb, hc⟩ := h.2 (by rw [← h.1]; exact h0)
  refine ⟨_, e, fun j v hj => ?_⟩
  have hjl := (List.getElem?_eq_some_iff.1 hj).1
  have hadd : (⟨b, off, none⟩ : Addr).add j = ⟨b, off + j, none⟩ := by unfold Addr.add; split <;> simp_all
  rw [hadd, hc j hjl, ← hj, List.getElem?_eq_getElem hjl]
theorem splice_whole (z l : List Value) (h : z.length = l.length) : splice z 0 l = l := by
  simp [splice, List.drop_of_length_le (by omega : z.length ≤ 0 + l.length), ← h]
set_option maxRecDepth 20000 in
set_option maxHeartbeats 400000 in
theorem copied_any (A : Option Addr) (len cap B : Nat) (l : List UInt8) (w : World) (hA : Has w B A len (l.map bv)) (hB : B ≤ w.heap.size) (hlen : len ≤ 1000000) :
    Calls Try.prog 71 #[.slice A len cap] w fun e w' => ∃ g, e = .returned (.slice (some ⟨g, 0, none⟩) len len) ∧ w.heap.size ≤ g ∧ w'.heap[g]? = some (.cells (l.map bv).toArray 5 (0, 0)) ∧ Below w.heap.size w w' := by
  have hl : Hid (l.length = len) := by show _ = _; simpa using hA.1
  have hlen' : Hid (len ≤ 1000000) := hlen
  clear hlen
  go_enter Try.func71, Try.ntmps71
  go_wp2_with (first
    | (at_make; refine wpList_make_bytes _ rfl _ _ (by exact rfl) len (by exact rfl) (by exact rfl) (by have := hlen'.out; omega) ?_; intro w1 g hg0 hg1 hrow hgr; have hb1 := (Below.refl w.heap.size w).grown hgr (Nat.le_refl _) (fun k e => by cases e))
    | (refine wpList_copy_splice rfl _ _ _ _ (by exact rfl) 5 tyBs szU8 _ _ _ _ _ _ (by exact rfl) (by exact rfl) g 0 (zeros len).toList 5 (by simpa [Row] using hrow) (l.map bv) (by rw [List.length_map, hl.out]; exact (Nat.min_self _).symm) (fun h0 => ⟨by exact rfl, has_src (hA.below' hb1 hB) h0⟩) (by simp [zeros, hl.out]) (one_bytes l) w.heap.size w hb1 hg0 ?_; intro w2 hg2 hb2))
  go_ret
  refine ⟨g, rfl, hg0, ?_, hb2⟩
  have := hg2.out
  rwa [splice_whole _ _ (by simp [zeros, hl.out])] at this
end

section
open Go.RowKit

/-- A new disk in memory. -/
theorem fresh_disk {w w' : World} {sb a n : Nat} {st : Nat → List UInt8} (hok : (Dsk.fresh st).Ok n) (hb : Below w.heap.size w w') (hs : w.heap[sb]? = some (.cells ((flat n st).map bv).toArray 5 (0, 0)))
    (hm : w'.heap[w.heap.size]? = some (.map #[] 0)) (ha : w'.heap[a]? = some (.cells #[.slice (some ⟨sb, 0, none⟩) (64 * n) (64 * n), .map (some w.heap.size), .slice none 0 0, .int .i64 0, .bool false] 98 (0, 0))) (hle : w.heap.size ≤ a) :
    PD w' (fun k => k = sb ∨ (w.heap.size ≤ k ∧ k < w'.heap.size)) a n (Dsk.fresh st) := by
  have hsb := lt_of_some hs
  refine ⟨sb, w.heap.size, none, 0, 0, .map [], hok, ha, (hb.block sb hsb).trans hs, ?_, ?_, ?_, ⟨rfl, fun h => absurd h (by omega)⟩, by omega, .inr ⟨hle, lt_of_some ha⟩, .inl rfl, .inr ⟨Nat.le_refl _, lt_of_some hm⟩, ?_⟩
  · exact ⟨#[], 0, hm, by
      have := World.ownsMap_made w Try.prog 3 heldR
      obtain ⟨es, clock, h1, h2, h3, h4⟩ := this
      rw [heap_alloc_last] at h1
      cases h1
      exact h2, by simp, by simp⟩
  · intro x
    constructor
    · intro h; simp [Maps.has] at h
    · rintro ⟨i, _, h⟩; simp [Dsk.fresh] at h
  · intro i xs h; simp [Dsk.fresh] at h
  · rintro k (rfl | hk)
    · have := hb.size; omega
    · exact hk.2

set_option maxHeartbeats 400000 in
theorem diskOf_any (w : World) (sb n L : Nat) (st : Nat → List UInt8) (hok : (Dsk.fresh st).Ok n) (hL : Hid (L = 64 * n)) (hs : w.heap[sb]? = some (.cells ((flat n st).map bv).toArray 5 (0, 0))) :
    Calls Try.prog 62 #[.slice (some ⟨sb, 0, none⟩) L L] w fun e w' => ∃ a, e = .returned (.pointer (some ⟨a, 0, none⟩)) ∧ w.heap.size ≤ a ∧ PD w' (fun k => k = sb ∨ (w.heap.size ≤ k ∧ k < w'.heap.size)) a n (Dsk.fresh st) ∧ Below w.heap.size w w' := by
  have hmm := @run_makeMap Try.prog
  go_enter Try.func62, Try.ntmps62
  go_wp2
  go_ret
  refine ⟨w.heap.size + 1, rfl, by omega, ?_, ((Below.refl _ _).alloc (Nat.le_refl _) _).alloc (by simp) _⟩
  have hb := ((Below.refl w.heap.size w).alloc (Nat.le_refl _) (.map #[] 0)).alloc (by simp) (.cells #[.slice (some ⟨sb, 0, none⟩) L L, .map (some w.heap.size), .slice none 0 0, .int .i64 0, .bool false] 98)
  refine fresh_disk hok hb hs ?_ ?_ (by omega)
  · rw [Below.heap_alloc _ _ _ (by simp), heap_alloc_last]
  · have := heap_alloc_last (w.alloc (.map #[] 0)) (.cells #[.slice (some ⟨sb, 0, none⟩) L L, .map (some w.heap.size), .slice none 0 0, .int .i64 0, .bool false] 98)
    rw [show (w.alloc (Obj.map #[] 0)).heap.size = w.heap.size + 1 by simp] at this
    rw [this, hL.out]

def st0 : Nat → List UInt8 := fun _ => List.replicate 64 0
theorem st0_len (n : Nat) : ∀ i, i < n → (st0 i).length = 64 := fun _ _ => by simp [st0]
theorem flat_zeros (n : Nat) : flat n st0 = List.replicate (64 * n) 0 := by
  induction n with
  | zero => rfl
  | succ n ih => rw [flat_succ, ih, st0, List.replicate_append_replicate]; rfl
/-- The blocks that a call has made. -/
def newF (w w' : World) : Nat → Prop := fun k => w.heap.size ≤ k ∧ k < w'.heap.size
set_option maxHeartbeats 400000 in
theorem new_no (s : Int) (w : World) (hs : possB s = false) : Calls Try.prog 10 #[.int .i64 s] w fun e w' => e = .returned (.tuple #[.pointer none, .int .i64 2]) ∧ w = w' := by
  go_enter Try.func10, Try.ntmps10
  go_wp2_with (go_at_call 61; refine (possible_any _ _).mono ?_; rintro e w' ⟨rfl, rfl⟩)
  go_ret2
  exact ⟨rfl, rfl⟩
set_option maxHeartbeats 400000 in
set_option maxRecDepth 20000 in
theorem new_yes (n : Nat) (w : World) (h1 : 1 ≤ n) (h4 : n ≤ 4096) : Calls Try.prog 10 #[.int .i64 n] w fun e w' => ∃ a, e = .returned (.tuple #[.pointer (some ⟨a, 0, none⟩), .int .i64 0]) ∧ w.heap.size ≤ a ∧ PD w' (newF w w') a n (Dsk.fresh st0) ∧ Below w.heap.size w w' := by
  have hs : possB (n : Int) = true := by simp [possB]; omega
  have hok := Dsk.Ok.fresh h1 h4 (st0_len n)
  obtain ⟨L, hL⟩ : ∃ L, L = 64 * n := ⟨_, rfl⟩
  have hw : wrap64 ((n : Int) * 64) = (L : Int) := by unfold wrap64; omega
  have hw' : (n : Int) * 64 = (L : Int) := by omega
  have hL4 : Hid (L ≤ 281474976710656) := by show _ ≤ _; omega
  have hL' := Lib.hid hL
  clear hL
  go_enter Try.func10, Try.ntmps10
  go_wp2_with (first
    | (go_at_call 61; refine (possible_any _ _).mono ?_; rintro e w' ⟨rfl, rfl⟩)
    | (at_make; refine wpList_make_bytes _ rfl _ _ (by exact rfl) L (by exact rfl) (by exact rfl) (by exact hL4.out) ?_; intro w1 g hg0 hg1 hrow hgr; have hb1 := (Below.refl w.heap.size w).grown hgr (Nat.le_refl _) (fun k e => by cases e); have hrow' : w1.heap[g]? = some (.cells ((flat n st0).map bv).toArray 5 (0, 0)) := (by rw [flat_zeros, ← hL'.out]; simpa [Row, Proofs.Ytbcfjkfkkklgbaa.zeros, bv] using hrow))
    | (go_at_call 62; refine (diskOf_any w1 g n L st0 hok hL' hrow').mono ?_; rintro e w2 ⟨a, rfl, ha, hpd, hb2⟩))
  go_ret2
  have := hb1.size
  have := hb2.size
  refine ⟨a, rfl, by omega, hpd.more ?_ fun b hb => hb.2, hb1.trans (hb2.mono hb1.size)⟩
  rintro b (rfl | hb)
  · exact ⟨hg0, by omega⟩
  · exact ⟨by omega, hb.2⟩

/-- The sectors of an image. -/
def stOf (l : List UInt8) : Nat → List UInt8 := fun i => (l.drop (64 * i)).take 64
theorem stOf_len {l : List UInt8} {n : Nat} (h : l.length = 64 * n) : ∀ i, i < n → (stOf l i).length = 64 := fun i hi => by simp [stOf]; omega
theorem flat_stOf_take (l : List UInt8) (n : Nat) (h : 64 * n ≤ l.length) : flat n (stOf l) = l.take (64 * n) := by
  induction n with
  | zero => simp [flat]
  | succ n ih => rw [flat_succ, ih (by omega), stOf, show 64 * (n + 1) = 64 * n + 64 by omega, List.take_add]
theorem flat_stOf {l : List UInt8} {n : Nat} (h : l.length = 64 * n) : flat n (stOf l) = l := by
  rw [flat_stOf_take l n (by omega), ← h, List.take_length]
theorem stOf_flat {n : Nat} {st : Nat → List UInt8} (h : ∀ i, i < n → (st i).length = 64) {i : Nat} (hi : i < n) : stOf (flat n st) i = st i := flat_sub h hi

set_option maxHeartbeats 400000 in
theorem image_nil (w : World) : Calls Try.prog 51 #[.pointer none] w fun e w' => e = .returned (.slice none 0 0) ∧ w = w' := by
  go_enter Try.func51, Try.ntmps51
  go_wp2
  go_ret
  exact ⟨rfl, rfl⟩
theorem has_of_row {w : World} {g : Nat} {l : List UInt8} {n : Nat} (h : w.heap[g]? = some (.cells (l.map bv).toArray 5 (0, 0))) (hn : l.length = n) : Has w w.heap.size (some ⟨g, 0, none⟩) n (l.map bv) :=
  ⟨by simpa using hn, fun _ => ⟨g, 0, rfl, lt_of_some h, fun j hj => by rw [cell_of_row w g (0 + j) _ _ _ h]; simp at hj ⊢; simp [List.getElem?_eq_getElem hj]⟩⟩
set_option maxHeartbeats 400000 in
theorem image_any {w : World} {F : Nat → Prop} {a n : Nat} {S : Dsk} (h : PD w F a n S) : Calls Try.prog 51 #[.pointer (some ⟨a, 0, none⟩)] w fun e w' =>
    ∃ g, e = .returned (.slice (some ⟨g, 0, none⟩) (64 * n) (64 * n)) ∧ w.heap.size ≤ g ∧ w'.heap[g]? = some (.cells ((flat n S.st).map bv).toArray 5 (0, 0)) ∧ Below w.heap.size w w' := by
  obtain ⟨sb, mb, A, m, c, D, h⟩ := h
  have c0 := h.c0
  have hA := has_of_row h.row (flat_length h.ok.st)
  have hn := h.ok.n4
  have hlen : Hid (64 * n ≤ 1000000) := by show _ ≤ _; omega
  clear h hn
  generalize 64 * n = L at *
  go_enter Try.func51, Try.ntmps51
  go_wp2_with (go_at_call 71; refine (copied_any _ L L _ _ w hA (Nat.le_refl _) hlen.out).mono ?_; rintro e w1 ⟨g, rfl, hg0, hrow, hb1⟩)
  go_ret
  exact ⟨g, rfl, hg0, hrow, hb1⟩
end

section
open Go.RowKit

set_option maxHeartbeats 400000 in
theorem off_nil (w : World) : Calls Try.prog 46 #[.pointer none] w fun e w' => e = .returned (.bool true) ∧ w = w' := by
  go_enter Try.func46, Try.ntmps46
  go_wp2
  go_ret
  exact ⟨rfl, rfl⟩
set_option maxHeartbeats 400000 in
theorem off_any {w : World} {F : Nat → Prop} {a n : Nat} {S : Dsk} (h : PD w F a n S) : Calls Try.prog 46 #[.pointer (some ⟨a, 0, none⟩)] w fun e w' => e = .returned (.bool S.off) ∧ w = w' := by
  obtain ⟨sb, mb, A, m, c, D, h⟩ := h
  have c4 := h.c4
  clear h
  go_enter Try.func46, Try.ntmps46
  go_wp2
  go_ret
  exact ⟨ret_bool (by simp), rfl⟩
set_option maxHeartbeats 400000 in
theorem cut_nil (w : World) : Calls Try.prog 31 #[.pointer none] w fun e w' => e = .returned (.tuple #[]) ∧ w = w' := by
  go_enter Try.func31, Try.ntmps31
  go_wp2
  go_end0
  exact ⟨rfl, rfl⟩
set_option maxHeartbeats 400000 in
theorem cut_any {w : World} {F : Nat → Prop} {a n : Nat} {S : Dsk} (h : PD w F a n S) : Calls Try.prog 31 #[.pointer (some ⟨a, 0, none⟩)] w fun e w' => e = .returned (.tuple #[]) ∧ PD w' F a n S.cut ∧ Frm F w w' := by
  obtain ⟨sb, mb, A, m, c, D, h⟩ := h
  have c4 := h.c4
  have f4 := h.fr 4
  have HH := Lib.hid h
  clear h
  go_enter Try.func31, Try.ntmps31
  go_wp2
  go_end0
  have h := HH.out
  have hf : Frm (fun b => b = a) w (w.setCell ⟨a, 4, none⟩ (.bool true)) := (Frm.refl (fun b => b = a) w).setCell (p := ⟨a, 4, none⟩) (.inl rfl) _
  refine ⟨rfl, ⟨sb, mb, A, m, c, D, h.fields hf h.ok.cut rfl rfl rfl ?_⟩, hf.more fun b e _ => by subst e; exact h.fa⟩
  have := set_field (j := 4) (v := .bool true) h.cells
  simpa [Dsk.cut] using this
set_option maxHeartbeats 400000 in
theorem contains_any {w : World} {F : Nat → Prop} {a n : Nat} {S : Dsk} (h : PD w F a n S) (i : Int) : Calls Try.prog 70 #[.pointer (some ⟨a, 0, none⟩), .int .i64 i] w fun e w' => e = .returned (.bool (inR n i)) ∧ w = w' := by
  by_cases h0 : 0 ≤ i
  · have hp : inR n i = decide (i < n) := by simp [inR, h0]
    have hp' := Lib.hid hp
    clear hp
    go_enter Try.func70, Try.ntmps70
    go_wp2_with (go_at_call 66; refine (sectors_any h).mono ?_; rintro e w' ⟨rfl, rfl⟩)
    go_ret
    exact ⟨ret_bool (by rw [hp'.out]), rfl⟩
  · have hp : inR n i = false := by simp [inR, h0]
    have hp' := Lib.hid hp
    clear hp
    go_enter Try.func70, Try.ntmps70
    go_wp2_with (go_at_call 66; refine (sectors_any h).mono ?_; rintro e w' ⟨rfl, rfl⟩)
    go_ret
    exact ⟨ret_bool (by rw [hp'.out]), rfl⟩

/-- Other faults, and the count from 0 again. -/
theorem PDx.arm {w w' : World} {F : Nat → Prop} {a n : Nat} {S : Dsk} {sb mb m c m' c' : Nat} {A A' : Option Addr} {D : DataW Value} (h : PDx w F a n S sb mb A m c D)
    (hf : Frm (fun b => b = a) w w') (fs : List (Int × Int)) (hfl : FltAt w F A' m' fs) (hm : m' ≤ 64)
    (hc : w'.heap[a]? = some (.cells #[.slice (some ⟨sb, 0, none⟩) (64 * n) (64 * n), .map (some mb), .slice A' m' c', .int .i64 0, .bool S.off] 98 (0, 0))) : PD w' F a n (S.armed fs) := by
  have hne : ∀ (b : Nat) (o : Obj), w.heap[b]? = some o → o ≠ Obj.cells #[.slice (some ⟨sb, 0, none⟩) (64 * n) (64 * n), .map (some mb), .slice A m c, .int .i64 S.cnt, .bool S.off] 98 (0, 0) → w'.heap[b]? = some o := by
    intro b o ho hn
    refine hf.obj ho fun e => hn ?_
    subst e
    rw [h.cells] at ho
    exact (Option.some.inj ho).symm
  have hmb : mb ≠ a := by
    rintro rfl
    obtain ⟨es, clock, hb, _⟩ := h.map
    rw [h.cells] at hb
    cases hb
  refine ⟨sb, mb, A', m', c', D, h.ok.armed fs, hc, hne _ _ h.row (by intro e; injection e with _ e _; cases e), maps_frm h.map hf hmb, h.has, fun i xs hi => ?_, ⟨hfl.1, fun h0 => ?_⟩, hm, h.fa, h.fs, h.fm, fun k hk => by have := h.lt k hk; have := hf.size; omega⟩
  · obtain ⟨g, h1, h2, h3, h4⟩ := h.val i xs hi
    exact ⟨g, h1, h2, h3, hne _ _ h4 (by intro e; injection e with _ e _; cases e)⟩
  · obtain ⟨b, cur, e, hb, hc', r⟩ := hfl.2 h0
    exact ⟨b, cur, e, hb, hne _ _ hc' (by intro e; injection e with _ e _; cases e), r⟩
set_option maxHeartbeats 400000 in
theorem arm_in {w : World} {F : Nat → Prop} {a n : Nat} {S : Dsk} (h : PD w F a n S) (A : Option Addr) (m c : Nat) (fs : List (Int × Int)) (hfl : FltAt w F A m fs) (hm : m ≤ 64) :
    Calls Try.prog 77 #[.pointer (some ⟨a, 0, none⟩), .slice A m c] w fun e w' => e = .returned (.tuple #[]) ∧ PD w' F a n (S.armed fs) ∧ Frm F w w' := by
  obtain ⟨sb, mb, A', m', c', D, h⟩ := h
  have c2 := h.c2
  have c3 := h.c3
  have f2 := h.fr 2
  have f3 := h.fr 3
  have HH := Lib.hid h
  have HF := Lib.hid hfl
  have HM := Lib.hid hm
  clear h hfl hm
  go_enter Try.func77, Try.ntmps77
  go_wp2
  go_end0
  have h := HH.out
  have hf : Frm (fun b => b = a) w ((w.setCell ⟨a, 2, none⟩ (.slice A m c)).setCell ⟨a, 3, none⟩ (.int .i64 0)) := ((Frm.refl (fun b => b = a) w).setCell (p := ⟨a, 2, none⟩) (.inl rfl) _).setCell (p := ⟨a, 3, none⟩) (.inl rfl) _
  refine ⟨rfl, h.arm hf fs HF.out HM.out (A' := A) (c' := c) ?_, hf.more fun b e _ => by subst e; exact h.fa⟩
  have := set_field (j := 3) (v := .int .i64 0) (set_field (j := 2) (v := .slice A m c) h.cells)
  simpa using this

set_option maxHeartbeats 400000 in
theorem stored_any {w : World} {F : Nat → Prop} {a n : Nat} {S : Dsk} {sb mb m c : Nat} {A : Option Addr} {D : DataW Value} (h : PDx w F a n S sb mb A m c D) (i : Nat) (hi : i < n) :
    Calls Try.prog 72 #[.pointer (some ⟨a, 0, none⟩), .int .i64 i] w fun e w' => e = .returned (.slice (some ⟨sb, 64 * i, none⟩) 64 (64 * n - 64 * i)) ∧ w = w' := by
  have c0 := h.c0
  have hn := h.ok.n4
  clear h
  obtain ⟨L, hL⟩ : ∃ L, L = 64 * n := ⟨_, rfl⟩
  obtain ⟨x, hx⟩ : ∃ x, x = 64 * i := ⟨_, rfl⟩
  obtain ⟨y, hy⟩ : ∃ y, y = x + 64 := ⟨_, rfl⟩
  have w1 : wrap64 ((i : Int) * 64) = (x : Int) := by unfold wrap64; omega
  have w2 : wrap64 ((i : Int) + 1) = (i : Int) + 1 := by unfold wrap64; omega
  have w3 : wrap64 (((i : Int) + 1) * 64) = (y : Int) := by unfold wrap64; omega
  have hxy : x ≤ y := by omega
  have hyL : y ≤ L := by omega
  rw [← hL] at c0 ⊢
  rw [← hx]
  have hy64 : Hid (y - x = 64) := by show _ = _; omega
  have hib : (i : Int) ≤ 4096 := by omega
  have hyb : (y : Int) ≤ 262144 := by omega
  have hw1 : (i : Int) * 64 = (x : Int) := by omega
  have hw3 : ((i : Int) + 1) * 64 = (y : Int) := by omega
  clear hL hx hy hn hi
  go_enter Try.func72, Try.ntmps72
  go_wp2
  go_ret
  exact ⟨(show Ending.returned (.slice (some ⟨sb, x, none⟩) (y - x) (L - x)) = _ by rw [hy64.out]), rfl⟩
end

section
open Go.RowKit

set_option maxHeartbeats 400000 in
theorem armedKind_any {w : World} {F : Nat → Prop} {a n : Nat} {S : Dsk} (h : PD w F a n S) (z : Int) :
    Calls Try.prog 95 #[.pointer (some ⟨a, 0, none⟩), .int .i64 z] w fun e w' => e = .returned (.int .i64 (fk S.fs z)) ∧ Below w.heap.size w w' := by
  obtain ⟨sb, mb, A, m, c, D, h⟩ := h
  have c2 := h.c2
  have HF := Lib.hid h.flt
  have HM := h.m64
  generalize S.fs = fs at HF ⊢
  clear h
  go_enter Try.func95, Try.ntmps95
  go_wp2
  go_loopw [12] (fun i wr => ∃ k : Nat, k ≤ m ∧ i = .int .i64 k ∧ Hid (Below w.heap.size w wr ∧ fk fs z = fk (fs.drop k) z)) (fun i _ => m - (intOf i).toNat)
  case atStart => exact ⟨0, Nat.zero_le _, rfl, Below.refl _ _, by simp⟩
  case round =>
    obtain ⟨k, hk, rfl, HR⟩ := hrel
    by_cases hlt : k < m
    · obtain ⟨b, cur, rfl, hFb, hrow, hc⟩ := HF.out.2 (by omega)
      have hkf : k < fs.length := by rw [HF.out.1]; exact hlt
      obtain ⟨h1, h2⟩ := hc k hkf
      have d1 := (HR.out.1.cell (p := ⟨b, k * 2, none⟩) (lt_of_some hrow)).trans ((cell_of_row w b (k * 2) _ _ _ hrow).trans h1)
      have d2 := (HR.out.1.cell (p := ⟨b, k * 2 + 1, none⟩) (lt_of_some hrow)).trans ((cell_of_row w b (k * 2 + 1) _ _ _ hrow).trans h2)
      have hstep : Hid (fk fs z = if fs[k].1 = z then fs[k].2 else fk (fs.drop (k + 1)) z) := by
        show _ = _
        rw [HR.out.2, List.drop_eq_getElem_cons hkf, fk_cons]
      generalize fs[k].1 = p1 at d1 hstep
      generalize fs[k].2 = p2 at d2 hstep
      clear hc h1 h2 hkf
      have hrow' := Lib.hid hrow
      clear hrow
      by_cases he : p1 = z
      · go_wp2
        go_ret
        exact ⟨ret_int (by rw [hstep.out, if_pos he]), HR.out.1.alloc HR.out.1.size _⟩
      · have he' : (p1 == z) = false := by simpa using he
        have HE := Lib.hid he
        clear he
        go_wp2
        go_roundw
        case rel => exact ⟨k + 1, by omega, by go_num, ⟨HR.out.1.alloc HR.out.1.size _, by rw [hstep.out, if_neg HE.out]⟩⟩
        case measure => simp [intOf]; omega
    · have hkm : k = m := by omega
      have hz : fk fs z = 0 := by rw [HR.out.2, List.drop_of_length_le (by rw [HF.out.1]; omega)]; rfl
      have hz' := Lib.hid hz
      clear hz
      go_wp2
      go_ret
      exact ⟨ret_int hz'.out.symm, HR.out.1⟩

set_option maxHeartbeats 800000 in
theorem begin_any {w : World} {F : Nat → Prop} {a n : Nat} {S : Dsk} (h : PD w F a n S) (ok : Bool) :
    Calls Try.prog 69 #[.pointer (some ⟨a, 0, none⟩), .bool ok] w fun e w' => e = .returned (.tuple #[.bool (S.pow ok && decide (S.err ok = 0)), .int .i64 (S.err ok)]) ∧ PD w' F a n (S.begun ok) ∧ Frm F w w' := by
  cases ho : S.off with
  | true =>
    have h1 : S.pow ok = false := by simp [Dsk.pow, ho]
    have h2 : S.err ok = 10 := by simp [Dsk.err, ho]
    have h3 : S.begun ok = S := by simp [Dsk.begun, ho]
    rw [h1, h2, h3]
    go_enter Try.func69, Try.ntmps69
    go_wp2_with (go_at_call 46; refine (off_any h).mono ?_; rintro e w' ⟨rfl, rfl⟩)
    go_ret2
    exact ⟨rfl, h, Frm.refl _ _⟩
  | false =>
    cases ok with
    | false =>
      have h1 : S.pow false = false := by simp [Dsk.pow]
      have h2 : S.err false = 2 := by simp [Dsk.err, ho]
      have h3 : S.begun false = S := by simp [Dsk.begun]
      rw [h1, h2, h3]
      go_enter Try.func69, Try.ntmps69
      go_wp2_with (go_at_call 46; refine (off_any h).mono ?_; rintro e w' ⟨rfl, rfl⟩)
      go_ret2
      exact ⟨rfl, h, Frm.refl _ _⟩
    | true =>
      have h3 : S.begun true = S.tick := by simp [Dsk.begun, ho]
      have h2 : S.err true = if S.kind = 1 then 9 else 0 := by simp [Dsk.err, ho]
      have h1 : S.pow true = decide (S.kind = 2) := by simp [Dsk.pow, ho]
      rw [h1, h2, h3]
      have hx := h
      obtain ⟨sb, mb, A, m, c, D, hx⟩ := hx
      have c3 := hx.c3
      have f3 := hx.fr 3
      have lt := hx.lt a hx.fa
      have hk : Hid (fk S.fs S.cnt = S.kind) := rfl
      have hcell : Hid (∀ w1, Below w.heap.size w w1 → PD (w1.setCell ⟨a, 3, none⟩ (.int .i64 (wrap64 (S.cnt + 1)))) F a n S.tick ∧ Frm F w (w1.setCell ⟨a, 3, none⟩ (.int .i64 (wrap64 (S.cnt + 1))))) := by
        intro w1 hb
        have hf : Frm (fun b => b = a) w (w1.setCell ⟨a, 3, none⟩ (.int .i64 (wrap64 (S.cnt + 1)))) := (Frm.of_below (F := fun b => b = a) hb).setCell (p := ⟨a, 3, none⟩) (.inl rfl) _
        refine ⟨⟨sb, mb, A, m, c, D, hx.fields hf hx.ok.tick rfl rfl rfl ?_⟩, hf.more fun b e _ => by subst e; exact hx.fa⟩
        have := set_field (j := 3) (v := .int .i64 (wrap64 (S.cnt + 1))) ((hb.block a (lt_of_some hx.cells)).trans hx.cells)
        simpa [Dsk.tick] using this
      clear h1 h2 h3 hx
      generalize S.kind = q at hk ⊢
      have hoff := Lib.hid ho
      clear ho
      by_cases hq1 : q = 1
      · subst hq1
        go_enter Try.func69, Try.ntmps69
        go_wp2_with (first
          | (go_at_call 46; refine (off_any h).mono ?_; rintro e w' ⟨rfl, rfl⟩; rw [hoff.out])
          | (go_at_call 95; refine (armedKind_any h _).mono ?_; rintro e w1 ⟨rfl, hb1⟩; rw [hk.out]; have d3 := (hb1.cell (p := ⟨a, 3, none⟩) lt).trans c3; have g3 := (hb1.frozen (p := ⟨a, 3, none⟩) lt).trans f3))
        go_ret2
        exact ⟨by simp, hcell.out _ hb1⟩
      · have hq1' : (q == 1) = false := by simpa using hq1
        have HQ := Lib.hid hq1
        clear hq1
        have hres : Hid ((if q = 1 then (9 : Int) else 0) = 0) := by show _ = _; rw [if_neg HQ.out]
        generalize (if q = 1 then (9 : Int) else 0) = er at hres
        go_enter Try.func69, Try.ntmps69
        go_wp2_with (first
          | (go_at_call 46; refine (off_any h).mono ?_; rintro e w' ⟨rfl, rfl⟩; rw [hoff.out])
          | (go_at_call 95; refine (armedKind_any h _).mono ?_; rintro e w1 ⟨rfl, hb1⟩; rw [hk.out]; have d3 := (hb1.cell (p := ⟨a, 3, none⟩) lt).trans c3; have g3 := (hb1.frozen (p := ⟨a, 3, none⟩) lt).trans f3))
        go_ret2
        exact ⟨by rw [hres.out]; simp [Act.eval, Array.getD]; by_cases hq2 : q = 2 <;> simp [hq2], hcell.out _ hb1⟩
end
end

section
open Go.RowKit

/-- Bytes that are all zero are no frame. -/
theorem crc_zeros : ¬ wordB (List.replicate 4 0) = crcSum (List.replicate 10 0) := by decide +kernel
theorem getD_rep (k i : Nat) : (List.replicate k (0 : UInt8)).getD i 0 = 0 := by
  rw [List.getD_eq_getElem?_getD]
  by_cases h : i < k
  · rw [List.getElem?_eq_getElem (by simpa using h)]; simp
  · rw [List.getElem?_eq_none (by simpa using h)]; rfl
theorem derr_zeros (k : Nat) (h : 14 ≤ k) (e q : W32) : derr (List.replicate k 0) e q = 7 := by
  have hl : lenB (List.replicate k (0 : UInt8)) = 0 := by unfold lenB; rw [getD_rep, getD_rep]; rfl
  refine derr_4 (by simp; omega) (by omega) (by simp; omega) ?_
  rw [hl, Nat.add_zero, List.drop_replicate, List.take_replicate, Nat.min_eq_left (by omega)]
  intro he
  have hw : wordB (List.replicate (k - 10) (0 : UInt8)) = wordB (List.replicate 4 0) := by
    unfold wordB
    simp only [getD_rep]
  exact crc_zeros (by rw [← hw]; exact he)
theorem scan_zeros (k f : Nat) (h : 14 ≤ k) (e : W32) : scanB f (List.replicate k 0) e 0 = ([], 0) := scanB_no (by rw [derr_zeros k h]; decide)

/-- The whole of a disk without faults is read. -/
theorem xread_quiet {S : Dsk} {n : Nat} (hq : Quiet S) (hok : S.Ok n) : ∃ T, S.xread n 0 n 0 (xsize n) = (T, 0, view n S) ∧ Quiet T := by
  have h1 := hok.n1
  have h4 := hok.n4
  have hv : xvalid n 0 n = true := by simp [xvalid]; omega
  have hs : xsize n = (n : Int) * 64 := xsize_valid h4 hv
  have he : xerr n 0 n 0 (xsize n) = 0 := by
    unfold xerr
    rw [if_neg (by rw [hv]; simp), if_neg (by rw [hs]; omega)]
  have hx : S.xread n 0 n 0 (xsize n) = rdc 0 (chs (64 * n) 0 (64 * n)) S [] := by
    have ht : (xsize n).toNat = 64 * n := by rw [hs]; omega
    simp [Dsk.xread, he, ck, ht]
  obtain ⟨q1, q2, q3, _⟩ := rdc_quiet 0 n (64 * n) 0 (64 * n) S [] (Nat.le_refl _) (by omega) hq hok
  rw [hx]
  refine ⟨_, Prod.ext rfl (Prod.ext q1 ?_), q3⟩
  rw [q2, List.nil_append, List.drop_zero, List.take_of_length_le (by rw [view_length hok]; exact Nat.le_refl _)]
theorem zeroL_rep (k : Nat) : zeroL (List.replicate k 0) = true := by
  unfold zeroL
  rw [List.all_eq_true]
  intro x hx
  rw [(List.mem_replicate.1 hx).2]
  rfl
theorem Quiet.synced {S : Dsk} (h : Quiet S) : Quiet S.synced := by
  obtain ⟨h1, h2, _⟩ := h.run
  unfold Dsk.synced
  rw [if_neg (fun g => g h1), h2]
  exact h
/-- A log is opened on a new disk. -/
theorem wopen_fresh (n : Nat) (h1 : 1 ≤ n) (h4 : n ≤ 4096) (e : W32) : ∃ T, (Dsk.fresh st0).wopen n 0 n e = ⟨T, 0, some ⟨e, 0, n, 0, 0, 0, false⟩, []⟩ ∧ Quiet T := by
  have hok := Dsk.Ok.fresh h1 h4 (st0_len n)
  have hv : xvalid n 0 n = true := by simp [xvalid]; omega
  obtain ⟨T, hx, hT⟩ := xread_quiet (n := n) (S := Dsk.fresh st0) ⟨rfl, rfl⟩ hok
  have hvw : view n (Dsk.fresh st0) = List.replicate (64 * n) 0 := by rw [← flat_zeros n]; rfl
  rw [hvw] at hx
  have hw := wopen_3 (e := e) hv (by rw [hx])
  rw [hx] at hw
  dsimp only at hw
  rw [scan_zeros _ _ (by omega) e] at hw
  have hc := wclean_yes (S := T) (n := n) (f := 0) (c := n) (l := List.replicate (64 * n) 0) (k := 0) (by rw [List.drop_zero]; exact zeroL_rep _)
  rw [woB_ok (by rw [hc]), hc, woC_ok hT.run.1] at hw
  exact ⟨T.synced, hw, hT.synced⟩
/-- A record that fits is appended. -/
theorem wapp_quiet {S : Dsk} {n : Nat} {L : Lg} {d : List UInt8} (hq : Quiet S) (hok : S.Ok n) (hl : L.Ok n) (hb : L.bad = false) (hd : d.length ≤ 1024) (hfit : ¬ xsize L.c - L.fin < 14 + (d.length : Int)) :
    ∃ T, S.wapp n L d = (T, 0, { L with fin := L.fin + (14 + d.length), cnt := L.cnt + 1 }) ∧ Quiet T := by
  obtain ⟨hz, hz0, hz1, hz2, _, hc4⟩ := lg_small hok.n4 hl
  obtain ⟨p1, p2, p3⟩ := xvalid_parts hl.val
  have hfl := frameB_length L.e (sq L.cnt) d
  have he : xerr n L.f L.c L.fin (frameB L.e (sq L.cnt) d).length = 0 := by
    unfold xerr
    rw [if_neg (by rw [hl.val]; simp), if_neg (by rw [hfl]; omega)]
  have hx : S.xwrite n L.f L.c L.fin (frameB L.e (sq L.cnt) d) = wrc L.f.toNat (chs (frameB L.e (sq L.cnt) d).length L.fin (frameB L.e (sq L.cnt) d).length) S (frameB L.e (sq L.cnt) d) := by
    simp [Dsk.xwrite, he, ck]
  obtain ⟨q1, q2, _⟩ := wrc_quiet L.f.toNat n _ L.fin _ S (frameB L.e (sq L.cnt) d) (Nat.le_refl _) rfl (by rw [hfl]; omega) hq hok
  rw [← hx] at q1 q2
  exact ⟨_, wapp_yes hb (by omega) hfit (Prod.ext rfl q1), q2⟩
end

section
open Go.RowKit

/-- A number of 32 bits as the walk's number: simp does not look into it. -/
def nv (c : W32) : Int := (c.toNat : Int)
theorem nv_ge (c : W32) : 0 ≤ nv c := by unfold nv; omega
theorem nv_lt (c : W32) : nv c < 4294967296 := by have := c.isLt; unfold nv; omega
theorem nv_zero : nv 0#32 = 0 := rfl
theorem nv_inj {a b : W32} (h : nv a = nv b) : a = b := BitVec.eq_of_toNat_eq (by unfold nv at h; omega)
theorem nv_of (n : Int) (h0 : 0 ≤ n) (h1 : n < 4294967296) : ∃ c, n = nv c :=
  ⟨BitVec.ofNat 32 n.toNat, by simp only [nv, BitVec.toNat_ofNat]; omega⟩
theorem nv_beq (a b : W32) : (nv a == nv b) = decide (a = b) := by
  by_cases h : a = b
  · subst h; simp
  · rw [decide_eq_false h, beq_eq_false_iff_ne]; exact fun e => h (nv_inj e)
theorem nv_xor (a b : W32) : bits .xor .u32 (nv a) (nv b) = nv (a ^^^ b) := by
  unfold nv
  rw [u32_xor_nat _ _ (by have := a.isLt; omega) (by have := b.isLt; omega), BitVec.toNat_xor]
theorem nv_byte (b : UInt8) : nv (b32 b) = (b.toNat : Int) := by unfold nv; rw [b32_toNat]
theorem nv_xor_byte (c : W32) (b : UInt8) : bits .xor .u32 (nv c) (b.toNat : Int) = nv (c ^^^ b32 b) := by rw [← nv_byte, nv_xor]
theorem nv_not (a : W32) : bits .xor .u32 IntKind.u32.max (nv a) = nv (~~~ a) := by
  have h := nv_xor (~~~ 0#32) a
  rw [← BitVec.not_xor_left, BitVec.zero_xor] at h
  exact h
theorem bit0 (c : W32) : c.getLsbD 0 = decide (nv c % 2 = 1) := by
  have : c.getLsbD 0 = decide (c.toNat % 2 = 1) := by simp [BitVec.getLsbD, Nat.testBit_zero]
  rw [this]
  unfold nv
  exact decide_eq_decide.2 (by omega)
theorem half_nv (c : W32) : nv c / (2 : Int) = nv (c >>> 1) := by
  unfold nv
  rw [BitVec.toNat_ushiftRight, Nat.shiftRight_eq_div_pow]
  omega
theorem stepB_odd (c : W32) (h : nv c % 2 = 1) : bits .xor .u32 (nv c / 2) 3988292384 = nv (stepB c) := by
  have hb : c.getLsbD 0 = true := by rw [bit0]; simpa using h
  rw [half_nv, show (3988292384 : Int) = nv polyW from rfl, nv_xor]
  unfold stepB
  rw [if_pos hb]
theorem stepB_even (c : W32) (h : nv c % 2 = 0) : nv c / 2 = nv (stepB c) := by
  have hb : ¬ c.getLsbD 0 = true := by rw [bit0]; simp; omega
  unfold stepB
  rw [if_neg hb, half_nv]
theorem and_one (c : W32) : bits .and .u32 (nv c) 1 = nv c % 2 := by
  unfold nv
  rw [show (1 : Int) = ((1 : Nat) : Int) from rfl, u32_and_nat _ _ (by have := c.isLt; omega) (by decide), Nat.and_one_is_mod]
  omega

attribute [irreducible] nv

set_option maxHeartbeats 400000 in
theorem step_any (c : W32) (w : World) : Calls Try.prog 120 #[.int .u32 (nv c)] w fun e w' => e = .returned (.int .u32 (nv (stepB c))) ∧ w = w' := by
  have hge := nv_ge c
  have hlt := nv_lt c
  have ha := and_one c
  by_cases h : nv c % 2 = 1
  · have HS := Lib.hid (stepB_odd c h)
    rw [h] at ha
    clear h
    go_enter Try.func120, Try.ntmps120
    go_wp2
    go_ret
    exact ⟨ret_int HS.out, rfl⟩
  · have h : nv c % 2 = 0 := by omega
    have HS := Lib.hid (stepB_even c h)
    rw [h] at ha
    clear h
    go_enter Try.func120, Try.ntmps120
    go_wp2
    go_ret
    exact ⟨ret_int HS.out, rfl⟩

set_option maxHeartbeats 400000 in
theorem refStep_any (c : W32) (w : World) : Calls Try.prog 108 #[.int .u32 (nv c)] w fun e w' => e = .returned (.int .u32 (nv (stepB c))) ∧ w = w' := by
  have hge := nv_ge c
  have hlt := nv_lt c
  by_cases h : nv c % 2 = 1
  · have HS := Lib.hid (stepB_odd c h)
    have h2 : nv c % 2 = 1 := h
    clear h
    go_enter Try.func108, Try.ntmps108
    go_wp2
    go_ret
    exact ⟨ret_int HS.out, rfl⟩
  · have h : nv c % 2 = 0 := by omega
    have HS := Lib.hid (stepB_even c h)
    have h2 : nv c % 2 = 0 := h
    clear h
    go_enter Try.func108, Try.ntmps108
    go_wp2
    go_ret
    exact ⟨ret_int HS.out, rfl⟩

set_option maxHeartbeats 400000 in
theorem eight_any (c : W32) (w : World) : Calls Try.prog 107 #[.int .u32 (nv c)] w fun e w' => e = .returned (.int .u32 (nv (stepN 8 c))) ∧ w = w' := by
  go_enter Try.func107, Try.ntmps107
  go_wp2
  go_loop [0, 3] (fun v i => ∃ (k : Nat) (d : W32), k ≤ 8 ∧ i = .int .i64 k ∧ v = .int .u32 (nv d) ∧ d = stepN k c) (fun _ i => 8 - (intOf i).toNat)
  case atStart => exact ⟨0, c, Nat.zero_le _, rfl, rfl, rfl⟩
  case round =>
    obtain ⟨k, d, hk, rfl, rfl, hd⟩ := hrel
    have HD := Lib.hid hd
    clear hd
    by_cases hlt : k < 8
    · have HN := Lib.hid (stepN_succ k c)
      go_wp2_with (go_at_call 120; refine (step_any _ _).mono ?_; rintro e w' ⟨rfl, rfl⟩)
      go_round
      case rel => exact ⟨k + 1, _, by omega, by go_num, rfl, by rw [HN.out, HD.out]⟩
      case measure => simp [intOf]; omega
    · obtain rfl : k = 8 := by omega
      go_wp2
      go_ret
      exact ⟨ret_int (by rw [HD.out]), rfl⟩
end

end Go.Proofs.Ytbcfjkfkkklgbaa
