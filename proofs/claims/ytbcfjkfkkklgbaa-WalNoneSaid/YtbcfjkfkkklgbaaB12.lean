/-
The contract of Dirty.
Calm disks (power on, no faults).
Small contracts of the program's disk: Write of anything on a calm disk, Image with its length named, Dirty of an empty cache.
Arguments that came in: slices of bytes, of faults and of keeps, read.
Contracts of extent.Valid, Size, rangeError, span and part.
-/
import Derived.Test.YtbcfjkfkkklgbaaB10
import Derived.Test.YtbcfjkfkkklgbaaShelf
import Derived.Test.YtbcfjkfkkklgbaaB06
import Derived.Deep.SlicePairs
import Derived.Deep.Slices
import Derived.Deep.Fields
import Derived.ChangeSame
import Derived.Test.YtbcfjkfkkklgbaaB00
import Derived.BigQuiet
import Derived.Deep.QuietTactic
namespace Go.Proofs.Ytbcfjkfkkklgbaa
section
open Go.RowKit Go.Maps Go.Sort Go.Shelf

/-- slices.Sort's two contracts at this program, at the fence that asks nothing. -/
theorem sortsA (m : Nat) : AnyZI.SortsIn Try.prog Try.sortedA_ren Fence.wide m :=
  ⟨fun blk off cap ss W hH hblk hsz => callsIn_wide.2 (AnyM.slices_Sort_int Try.sortA blk off cap ss W hH hblk hsz),
   fun p cap W => callsIn_wide.2 (AnyM.slices_Sort_int_none Try.sortA p cap W)⟩
theorem dirtyZ_sorted (n : Nat) (ca : Nat → Option (List UInt8)) : (dirtyZ n ca).mergeSort (fun x y => decide (x ≤ y)) = dirtyZ n ca := by
  refine List.mergeSort_of_pairwise ?_
  unfold dirtyZ dirty
  refine List.pairwise_map.2 (List.Pairwise.filter _ ?_)
  exact List.pairwise_lt_range.imp fun h => by simp; omega

set_option maxHeartbeats 1000000 in
theorem dirty_any {w : World} {F : Nat → Prop} {a n : Nat} {S : Dsk} (h : PD w F a n S) : Calls Try.prog 49 #[.pointer (some ⟨a, 0, none⟩)] w fun e w' => ∃ v, e = .returned v ∧
    w'.ownsRow w.heap.size 3 1 v (dirtyZ n S.ca).length ((dirtyZ n S.ca).map (Value.int .i64)) ∧ Below w.heap.size w w' := by
  obtain ⟨sb, mb, A, m, c, D0, h⟩ := h
  have c1 := h.c1
  have hown := h.map
  have hperm := keys_perm h.ok hown h.has
  have hsz := keys_size h.ok hown h.has
  have hmax : Maps.size D0 ≤ maxLen := by unfold maxLen; omega
  have hbytes : Maps.size D0 * 8 ≤ 140737488355328 := by omega
  clear h hsz
  refine (callsIn_wide (n := 6)).1 ?_
  have hbl := hown.lt
  have hseq : SeqGives Fence.wide 2 Try.prog 99 #[.pointer (some ⟨w.heap.size, 0, none⟩)] encZ (fun ss => ss.Perm (intKeys D0)) (Maps.size D0) (w.alloc (.cells #[.map (some mb)] 96)) :=
    AnyZI.keys_gives (ρ := Try.keysA_ren) { Try.keysA with } Fence.wide _ trivial rfl (by omega) w.heap.size mb 4096 D0 _ (by simp) (by simp) (by
      obtain ⟨es, clock, hb, Ft, hs, hD⟩ := hown
      exact ⟨es, clock, (Below.heap_alloc _ _ mb hbl).trans hb, Ft, hs, hD⟩)
  have cK : ∀ b W, CallsIn Fence.wide 5 Try.prog 87 #[.map b] W fun e w' => e = .returned (.func (.func 99) #[] #[.pointer (some ⟨W.heap.size, 0, none⟩)]) ∧ w' = W.alloc (.cells #[.map b] 96) := fun b W => AnyZI.keys_in Try.keysA Fence.wide 5 trivial rfl b W
  have cS := AnyZI.sorted_in Try.sortedA Fence.wide 5 trivial trivial trivial trivial rfl (by omega) (sortsA _) (enters_of Try.func98 (by kernel_rfl) rfl) 99 #[.pointer (some ⟨w.heap.size, 0, none⟩)] trivial (enters_of Try.func99 (by kernel_rfl) rfl) _ _ hmax hbytes _ hseq
  change CallsIn _ _ Try.prog 86 _ _ _ at cS
  have hfK : Fence.wide.fn 87 := trivial
  have hfS : Fence.wide.fn 86 := trivial
  refine callsIn_of_wp Try.func49 rfl trivial ?_ rfl
  simp only [Try.ntmps49, List.size_toArray, List.length_cons, List.length_nil, Nat.reduceAdd, Nat.reduceSub, Array.replicate_succ, Array.replicate_zero, List.push_toArray, List.append_toArray, List.nil_append, List.cons_append]
  gi_wp2_with (first
    | (gi_at_call 87; refine (cK _ _).mono ?_; rintro e w' ⟨rfl, rfl⟩)
    | (gi_at_call 86; refine cS.mono ?_; rintro e w' ⟨v, ss, rfl, hS, hrow, hnil, hb⟩))
  go_ret
  have hss : ss.mergeSort (fun x y => decide (x ≤ y)) = dirtyZ n S.ca := (mergeSort_of_perm_i (hS.trans hperm.symm)).trans (dirtyZ_sorted n S.ca)
  have hlen : ss.length = (dirtyZ n S.ca).length := (hS.trans hperm.symm).length_eq
  rw [hss, hlen] at hrow
  exact ⟨v, rfl, ownsRow_base_a hrow (by simp), ((Below.refl _ w).alloc (Nat.le_refl _) _).trans (hb.mono (by simp))⟩

set_option maxHeartbeats 400000 in
theorem dirty_nil (w : World) : Calls Try.prog 49 #[.pointer none] w fun e w' => e = .returned (.slice none 0 0) ∧ w = w' := by
  go_enter Try.func49, Try.ntmps49
  go_wp2
  go_ret
  exact ⟨rfl, rfl⟩
end

section
open Go.RowKit

theorem own_hasF {F : Nat → Prop} {w : World} {g c n : Nat} {l : List UInt8} (h : Own8 w g c n l) (hg : ¬ F g) : HasF F w (some ⟨g, 0, none⟩) n (l.map bv) :=
  ⟨h.has.1, fun h0 => by
    obtain ⟨b, off, e, hb, hc⟩ := h.has.2 h0
    injection e with e
    injection e with e1 e2
    exact ⟨b, off, by rw [e1, e2], hb, by rw [← e1]; exact hg, hc⟩⟩

/-- The power is on and no faults are armed. -/
def Calm (S : Dsk) : Prop := S.fs = [] ∧ S.off = false
theorem Calm.err {S : Dsk} (h : Calm S) : S.err true = 0 := by simp [Dsk.err, Dsk.kind, h.1, h.2, fk]
theorem Calm.pow {S : Dsk} (h : Calm S) : S.pow true = false := by simp [Dsk.pow, Dsk.kind, h.1, fk]
theorem Calm.begun {S : Dsk} (h : Calm S) : S.begun true = S.tick := by simp [Dsk.begun, h.2]
theorem Calm.done {S : Dsk} (h : Calm S) : S.done true = S.tick := by simp [Dsk.done, h.err, h.pow, h.begun]
theorem calm_fresh (st : Nat → List UInt8) : Calm (Dsk.fresh st) := ⟨rfl, rfl⟩
theorem Calm.put {S : Dsk} (h : Calm S) (i : Nat) (xs : List UInt8) : Calm (S.tick.put i xs) := h
theorem Calm.flush {S : Dsk} (h : Calm S) : Calm S.tick.flush := h
theorem Calm.tick {S : Dsk} (h : Calm S) : Calm S.tick := h

section
variable {w : World} {F : Nat → Prop} {a n : Nat} {S : Dsk}
theorem write_calm (h : PD w F a n S) (hc : Calm S) (i : Nat) (hi : i < n) (A : Option Addr) (cap : Nat) (xs : List UInt8) (hA : HasF F w A 64 (xs.map bv)) :
    Calls Try.prog 24 #[.pointer (some ⟨a, 0, none⟩), .int .i64 i, .slice A 64 cap] w fun e w' => e = .returned (.int .i64 0) ∧ PD w' (fun k => F k ∨ newF w w' k) a n (S.tick.put i xs) ∧ Frm F w w' := by
  refine (write_fine h i hi A cap xs hA hc.err false hc.pow).mono ?_
  rintro e w' ⟨rfl, h1, h2⟩
  rw [hc.done] at h1
  exact ⟨rfl, h1, h2⟩
theorem sync_calm (h : PD w F a n S) (hc : Calm S) : Calls Try.prog 27 #[.pointer (some ⟨a, 0, none⟩)] w fun e w' => e = .returned (.int .i64 0) ∧ PD w' F a n S.tick.flush ∧ Frm F w w' := by
  refine (sync_yes h hc.err hc.pow).mono ?_
  rintro e w' ⟨rfl, h1, h2⟩
  rw [hc.begun] at h1
  exact ⟨rfl, h1, h2⟩
theorem read_calm (h : PD w F a n S) (hc : Calm S) (i : Nat) (hi : i < n) :
    Calls Try.prog 21 #[.pointer (some ⟨a, 0, none⟩), .int .i64 i] w fun e w' => PD w' F a n S.tick ∧ Frm F w w' ∧
      ∃ g, e = .returned (.tuple #[.slice (some ⟨g, 0, none⟩) 64 64, .int .i64 0]) ∧ w.heap.size ≤ g ∧ w'.heap[g]? = some (.cells ((S.sec i).map bv).toArray 5 (0, 0)) := by
  have := read_yes h i hi hc.err hc.pow
  rwa [hc.begun] at this
end

theorem pairs_row {F : Nat → Prop} {w : World} {b : Nat} {x y : Int} {t : TypeId} (h : w.heap[b]? = some (.cells #[.int .i64 x, .int .i64 y] t (0, 0))) (hn : ¬ F b) (hx : -9223372036854775808 ≤ x ∧ x ≤ 9223372036854775807) : PairsF F w (some ⟨b, 0, none⟩) 1 [(x, y)] :=
  ⟨rfl, fun p hp => by simp at hp; subst hp; exact hx, fun _ => ⟨b, 0, rfl, lt_of_some h, hn, fun j hj => by
    have : j = 0 := by simpa using hj
    subst this
    exact ⟨cell_of_row w b 0 _ _ _ h, cell_of_row w b 1 _ _ _ h⟩⟩⟩
theorem PD.coarse {w0 w' : World} {F : Nat → Prop} {a n : Nat} {S : Dsk} (h : PD w' F a n S) (hF : ∀ b, F b → w0.heap.size ≤ b) : PD w' (newF w0 w') a n S := h.more (fun b hb => ⟨hF b hb, h.lt b hb⟩) fun b hb => hb.2
end

section
open Go.RowKit

theorem write_gen {w : World} {F : Nat → Prop} {a n : Nat} {S : Dsk} (h : PD w F a n S) (hc : Calm S) (i : Int) (A : Option Addr) (len cap : Nat) (l : List UInt8) (hA : HasF F w A len (l.map bv)) :
    Calls Try.prog 24 #[.pointer (some ⟨a, 0, none⟩), .int .i64 i, .slice A len cap] w fun e w' => (∃ z, e = .returned (.int .i64 z)) ∧ (∃ S', Calm S' ∧ PD w' (fun k => F k ∨ newF w w' k) a n S') ∧ Frm F w w' := by
  by_cases hg : 0 ≤ i ∧ i < n ∧ len = 64
  · obtain ⟨h0, h1, rfl⟩ := hg
    obtain ⟨k, rfl⟩ : ∃ k : Nat, i = k := ⟨i.toNat, by omega⟩
    refine (write_calm h hc k (by omega) A cap l hA).mono ?_
    rintro e w' ⟨rfl, h1, h2⟩
    exact ⟨⟨0, rfl⟩, ⟨_, hc.put k l, h1⟩, h2⟩
  · have hok : (inR n i && decide (len = 64)) = false := by
      by_cases h0 : 0 ≤ i <;> by_cases h1 : i < n <;> by_cases h2 : len = 64 <;> simp [inR, h0, h1, h2]
      exact hg ⟨h0, h1, h2⟩
    have he : S.err (inR n i && decide (len = 64)) ≠ 0 := by rw [hok]; simp [Dsk.err, hc.2]
    refine (write_err h i A len cap he).mono ?_
    rintro e w' ⟨rfl, h1, h2⟩
    refine ⟨⟨_, rfl⟩, ⟨S, hc, ?_⟩, h2⟩
    rw [hok] at h1
    have hS : S.begun false = S := by simp [Dsk.begun]
    rw [hS] at h1
    exact h1.more (fun b hb => .inl hb) fun b hb => hb.elim (h1.lt b) fun h => h.2
theorem image_L {w : World} {F : Nat → Prop} {a n L : Nat} {S : Dsk} (h : PD w F a n S) (hL : L = 64 * n) : Calls Try.prog 51 #[.pointer (some ⟨a, 0, none⟩)] w fun e w' =>
    ∃ g, e = .returned (.slice (some ⟨g, 0, none⟩) L L) ∧ w.heap.size ≤ g ∧ w'.heap[g]? = some (.cells ((flat n S.st).map bv).toArray 5 (0, 0)) ∧ Below w.heap.size w w' := by rw [hL]; exact image_any h
theorem own_frm {w w' : World} {F : Nat → Prop} {base e size n : Nat} {v : Value} {xs : List Value} (h : w.ownsRow base e size v n xs) (hf : Frm F w w') (hF : ∀ b, F b → b < base) : w'.ownsRow base e size v n xs :=
  ⟨h.1, h.2.elim Or.inl fun ⟨g, cap, cur, hv, hg, hr, r⟩ => Or.inr ⟨g, cap, cur, hv, hg, hf.obj hr fun hb => by have := hF g hb; omega, r⟩⟩
theorem dirty_none {w : World} {F : Nat → Prop} {a n : Nat} {S : Dsk} (h : PD w F a n S) (hc : ∀ i, S.ca i = none) : Calls Try.prog 49 #[.pointer (some ⟨a, 0, none⟩)] w fun e w' => (∃ A c, e = .returned (.slice A 0 c)) ∧ Below w.heap.size w w' := by
  refine (dirty_any h).mono ?_
  rintro e w' ⟨v, rfl, ho, hb⟩
  have hd : dirtyZ n S.ca = [] := by simp [dirtyZ, dirty, hc]
  rw [hd] at ho
  obtain ⟨A, c, rfl, _⟩ := Has.of_own ho
  exact ⟨⟨A, c, rfl⟩, hb⟩
theorem frm_above {B : Nat} {w w' : World} (h : Below B w w') : Frm (fun k => B ≤ k) w w' := ⟨h.os, h.tape, h.output, h.size, fun k _ hk => h.block k (by omega)⟩
end

section
open Go.RowKit Go.ChangeShapes Go.WideShapes Go.Deep

section
variable {H : Type} {enc : TypeId × Value → H} {w : World} {held : Bool}
def noF : Nat → Prop := fun _ => False
theorem spot_of {a : Addr} {v : Value} (h : w.cell? (a.add 0) = some v) : a = ⟨a.block, a.off, none⟩ ∧ a.block < w.heap.size := by
  have hx0 : a.add 0 = a := by unfold Addr.add; simp
  rw [hx0] at h
  unfold World.cell? at h
  split at h
  · rename_i hh
    by_cases hs : a.spot.isSome = true
    · rw [if_pos hs] at h; cases h
    · have hn : a.spot = none := by simpa using hs
      exact ⟨by cases a; simp_all, (Array.getElem?_eq_some_iff.1 hh).1⟩
  · cases h
theorem add_flat (b off j : Nat) : (⟨b, off, none⟩ : Addr).add j = ⟨b, off + j, none⟩ := by unfold Addr.add; split <;> simp_all

theorem open8 {fuel : Nat} {A : Option Addr} {n c : Nat} {x : DataW H × List MemPlace} (h : DataW.trod enc Try.prog w 0 (fun _ => true) held fuel 34 [.slice A n c] = some x) : ∃ l, Arg8 w A n c l := by
  rcases open_ints tyBs tyU8 (by kernel_rfl) h with ⟨hcs, _⟩ | ⟨y, l, c', zs, hcs, _, hl, hm, hz, _, hcell, hwz⟩
  · simp at hcs
    obtain ⟨rfl, rfl, rfl⟩ := hcs
    exact arg8_of (zs := []) (.inl ⟨rfl, rfl, rfl, rfl⟩)
  · simp at hcs
    obtain ⟨rfl, rfl, rfl⟩ := hcs
    exact arg8_of (zs := zs) (.inr ⟨_, rfl, hl, hm, by simpa using hz, hcell, hwz⟩)

theorem open_pairs {t e : TypeId} {f0 f1 : Field} (ht : Try.prog.underlying t = some (.slice e)) (he : Try.prog.underlying e = some (.struct #[f0, f1])) (ce : Try.prog.cellsOf e = 2) (o0 : f0.offset = 0) (o1 : f1.offset = 1)
    (c0 : Try.prog.cellsOf f0.type = 1) (c1 : Try.prog.cellsOf f1.type = 1) (u0 : Try.prog.underlying f0.type = some (.int .i64)) (u1 : Try.prog.underlying f1.type = some (.int .i64))
    {fuel : Nat} {A : Option Addr} {n c : Nat} {x : DataW H × List MemPlace} (h : DataW.trod enc Try.prog w 0 (fun _ => true) held fuel t [.slice A n c] = some x) : ∃ ps, PairsF noF w A n ps ∧ (A = none → c = 0) ∧ n ≤ maxLen := by
  rcases open_slice_pairs ht he ce o0 o1 c0 c1 h with ⟨hcs, _⟩ | ⟨a, len, cap, m, q, V0, V1, D0, D1, P0, P1, hcs, _, hl, hm, hmm, _, hx⟩
  · simp at hcs
    obtain ⟨rfl, rfl, rfl⟩ := hcs
    exact ⟨[], ⟨rfl, fun p hp => by simp at hp, fun h => absurd h (by omega)⟩, fun _ => rfl, Nat.zero_le _⟩
  · simp at hcs
    obtain ⟨rfl, rfl, rfl⟩ := hcs
    have hnm : n ≤ m := by rw [hmm]; simp; omega
    have each : ∀ i, i < m → ∃ p : Int × Int, w.cell? (a.add (i * 2)) = some (.int .i64 p.1) ∧ w.cell? (a.add (i * 2 + 1)) = some (.int .i64 p.2) ∧ (Lit.int .i64 p.1).wf = true := by
      intro i hi
      obtain ⟨h1, h2, h3, h4⟩ := hx i hi
      obtain ⟨n0, e0, _, w0⟩ := DataW.trod_int u0 h3
      obtain ⟨n1, e1, _, _⟩ := DataW.trod_int u1 h4
      simp at e0 e1
      rw [e0] at h1
      rw [e1] at h2
      exact ⟨(n0, n1), h1, h2, w0⟩
    have hall : ∃ f : Nat → Int × Int, ∀ i, i < m → w.cell? (a.add (i * 2)) = some (.int .i64 (f i).1) ∧ w.cell? (a.add (i * 2 + 1)) = some (.int .i64 (f i).2) ∧ (Lit.int .i64 (f i).1).wf = true := by
      refine ⟨fun i => if hi : i < m then Classical.choose (each i hi) else (0, 0), fun i hi => ?_⟩
      simp only [dif_pos hi]
      exact Classical.choose_spec (each i hi)
    obtain ⟨f, hf⟩ := hall
    refine ⟨(List.range n).map f, ⟨by simp, ?_, fun h0 => ?_⟩, (fun e => by cases e), by omega⟩
    · intro p hp
      obtain ⟨i, hi, rfl⟩ := List.mem_map.1 hp
      have hi' : i < n := List.mem_range.1 hi
      exact bounds_i64 (hf i (by omega)).2.2
    · obtain ⟨ea, hlt⟩ := spot_of (a := a) (by simpa using (hf 0 (by omega)).1)
      refine ⟨a.block, a.off, by rw [← ea], hlt, fun h => h, fun j hj => ?_⟩
      have hj' : j < n := by simpa using hj
      obtain ⟨g1, g2, _⟩ := hf j (by omega)
      rw [ea, add_flat] at g1 g2
      simp only [List.getElem_map, List.getElem_range]
      exact ⟨g1, by rw [Nat.add_assoc]; exact g2⟩

theorem open_flt {fuel : Nat} {A : Option Addr} {n c : Nat} {x : DataW H × List MemPlace} (h : DataW.trod enc Try.prog w 0 (fun _ => true) held fuel 45 [.slice A n c] = some x) : ∃ ps, PairsF noF w A n ps ∧ (A = none → c = 0) ∧ n ≤ maxLen :=
  open_pairs Try.underlying45 Try.underlying91 (by kernel_rfl) rfl rfl (by kernel_rfl) (by kernel_rfl) tyInt tyInt h
theorem open_kps {fuel : Nat} {A : Option Addr} {n c : Nat} {x : DataW H × List MemPlace} (h : DataW.trod enc Try.prog w 0 (fun _ => true) held fuel 46 [.slice A n c] = some x) : ∃ ps, PairsF noF w A n ps ∧ (A = none → c = 0) ∧ n ≤ maxLen :=
  open_pairs Try.underlying46 Try.underlying89 (by kernel_rfl) rfl rfl (by kernel_rfl) (by kernel_rfl) tyInt tyInt h
theorem trod_slice_val {t e : TypeId} (ht : Try.prog.underlying t = some (.slice e)) {fuel : Nat} {v : Value} {x : DataW H × List MemPlace} (h : DataW.trod enc Try.prog w 0 (fun _ => true) held fuel t [v] = some x) : ∃ A n c, v = .slice A n c := by
  rcases open_slice ht h with ⟨hcs, _⟩ | ⟨a, len, cap, _, _, _, _, hcs, _⟩
  · simp at hcs; exact ⟨_, _, _, hcs⟩
  · simp at hcs; exact ⟨_, _, _, hcs⟩

theorem len5 {α : Type} {l : List α} (h : l.length = 5) : ∃ a b c d e, l = [a, b, c, d, e] := by
  cases l with
  | nil => cases h
  | cons a l => cases l with
    | nil => cases h
    | cons b l => cases l with
      | nil => cases h
      | cons c l => cases l with
        | nil => cases h
        | cons d l => cases l with
          | nil => cases h
          | cons e l => cases l with
            | nil => exact ⟨a, b, c, d, e, rfl⟩
            | cons f l => simp at h
end
end

section
open Go.RowKit

theorem quiet_same {P : Program} {f : FuncId} {args : Array Value} {w : World} {n : Nat} {v : Value}
    (h : Calls P f args (w.drewN n) fun e w' => e = .returned v ∧ w.drewN n = w') : Calls P f args (w.drewN n) fun e w'' => e = .returned v ∧ ∃ m, w'' = w.drewN m :=
  h.mono fun _ _ ⟨he, hm⟩ => ⟨he, n, hm.symm⟩
def ext (f c : Int) : Value := .agg #[.int .i64 f, .int .i64 c]
theorem PD.drewN {w : World} {F : Nat → Prop} {a n : Nat} {S : Dsk} (h : PD w F a n S) (q : Nat) : PD (w.drewN q) F a n S := h.below (drewN_bel _ w q)
theorem box_below {w : World} (o : Obj) (q : Nat) : Below w.heap.size w ((w.alloc o).drewN q) := ((Below.refl _ _).alloc (Nat.le_refl _) o).trans (drewN_bel _ _ _)

set_option maxHeartbeats 1600000 in
theorem valid_any {w : World} {F : Nat → Prop} {a n : Nat} {S : Dsk} (h : PD w F a n S) (f c : Int) (hf : f ≤ 9223372036854775807) :
    Calls Try.prog 42 #[.pointer (some ⟨a, 0, none⟩), .agg #[.int .i64 f, .int .i64 c]] w fun e w' => e = .returned (.bool (xvalid n f c)) ∧ Below w.heap.size w w' := by
  have hn4 := h.ok.n4
  have HP : Hid (∀ q, PD ((w.alloc (.cells #[.int .i64 f, .int .i64 c] 32)).drewN q) F a n S) := fun q => h.below (box_below _ q)
  clear h
  by_cases h0 : 0 ≤ f
  · have b0 : decide ((0 : Int) ≤ f) = true := by simpa using h0
    by_cases h1 : 1 ≤ c
    · have b1 : decide ((1 : Int) ≤ c) = true := by simpa using h1
      have hw : wrap64 ((n : Int) - f) = (n : Int) - f := by unfold wrap64; omega
      obtain ⟨r, hr⟩ : ∃ r, r = decide (c ≤ (n : Int) - f) := ⟨_, rfl⟩
      have hv : Hid (xvalid n f c = r) := by show _ = _; rw [hr]; simp only [xvalid, b0, b1, Bool.true_and]; congr 1; apply propext; constructor <;> intro h <;> omega
      have hr' := hr.symm
      clear hr h0 h1
      go_enter Try.func42, Try.ntmps42
      go_wp2
      go_quiet ((go_at_call 66; exact quiet_same (sectors_any (HP.out _))))
      go_wp2
      go_ret
      exact ⟨ret_bool hv.out.symm, box_below _ _⟩
    · have b1 : decide ((1 : Int) ≤ c) = false := by simpa using h1
      have hv : Hid (xvalid n f c = false) := by show _ = _; simp [xvalid, h1]
      clear h0 h1
      go_enter Try.func42, Try.ntmps42
      go_wp2
      go_quiet (fail)
      go_wp2
      go_ret
      exact ⟨ret_bool hv.out.symm, box_below _ _⟩
  · have b0 : decide ((0 : Int) ≤ f) = false := by simpa using h0
    have hv : Hid (xvalid n f c = false) := by show _ = _; simp [xvalid, h0]
    clear h0
    go_enter Try.func42, Try.ntmps42
    go_wp2
    go_quiet (fail)
    go_wp2
    go_ret
    exact ⟨ret_bool hv.out.symm, box_below _ _⟩

set_option maxHeartbeats 1600000 in
theorem size_any (w : World) (f c : Int) : Calls Try.prog 44 #[.agg #[.int .i64 f, .int .i64 c]] w fun e w' => e = .returned (.int .i64 (xsize c)) ∧ Below w.heap.size w w' := by
  by_cases h0 : c < 0
  · have b0 : decide (c < 0) = true := by simpa using h0
    have hv : Hid (xsize c = 0) := by show _ = _; simp [xsize, h0]
    clear h0
    go_enter Try.func44, Try.ntmps44
    go_wp2
    go_ret
    exact ⟨ret_int hv.out.symm, (Below.refl _ _).alloc (Nat.le_refl _) _⟩
  · have b0 : decide (c < 0) = false := by simpa using h0
    by_cases h1 : 4096 < c
    · have b1 : decide ((4096 : Int) < c) = true := by simpa using h1
      have hv : Hid (xsize c = 0) := by show _ = _; simp [xsize, h1]
      clear h0 h1
      go_enter Try.func44, Try.ntmps44
      go_wp2
      go_ret
      exact ⟨ret_int hv.out.symm, (Below.refl _ _).alloc (Nat.le_refl _) _⟩
    · have b1 : decide ((4096 : Int) < c) = false := by simpa using h1
      have hw : wrap64 (c * 64) = c * 64 := by unfold wrap64; omega
      have hv : Hid (xsize c = c * 64) := by show _ = _; simp [xsize, h1, h0]
      have hw' := Lib.hid hw
      clear h0 h1
      go_enter Try.func44, Try.ntmps44
      go_wp2
      go_ret
      exact ⟨ret_int (by rw [hv.out]; first | exact hw'.out | rfl), (Below.refl _ _).alloc (Nat.le_refl _) _⟩

theorem xerr_bad {n : Nat} {f c off m : Int} (h : xvalid n f c = false) : xerr n f c off m = 1 := by simp [xerr, h]
set_option maxHeartbeats 1600000 in
theorem rangeError_any {w : World} {F : Nat → Prop} {a n : Nat} {S : Dsk} (h : PD w F a n S) (f c off m : Int) (hf : f ≤ 9223372036854775807) (hoff : off ≤ 9223372036854775807) (_ : m ≤ 9223372036854775807) :
    Calls Try.prog 81 #[.pointer (some ⟨a, 0, none⟩), .agg #[.int .i64 f, .int .i64 c], .int .i64 off, .int .i64 m] w fun e w' => e = .returned (.int .i64 (xerr n f c off m)) ∧ Below w.heap.size w w' := by
  have hb0 : Below w.heap.size w (w.alloc (.cells #[.int .i64 f, .int .i64 c] 32)) := (Below.refl _ _).alloc (Nat.le_refl _) _
  have hv := valid_any (h.below hb0) f c hf
  have hl := heap_alloc_last w (.cells #[.int .i64 f, .int .i64 c] 32)
  have hn4 := h.ok.n4
  have HB0 := Lib.hid hb0
  have HL := Lib.hid hl
  clear h hb0 hl
  cases hx : xvalid n f c with
  | false =>
    have he := Lib.hid (xerr_bad (off := off) (m := m) hx)
    rw [hx] at hv
    clear hx
    go_enter Try.func81, Try.ntmps81
    go_wp2_with (go_at_call 42; refine hv.mono ?_; rintro e w' ⟨rfl, hb⟩)
    go_ret
    exact ⟨ret_int he.out.symm, HB0.out.trans (hb.mono HB0.out.size)⟩
  | true =>
    rw [hx] at hv
    have hc : Hid (0 ≤ f ∧ 1 ≤ c ∧ f + c ≤ n) := by show _ ∧ _; simp [xvalid] at hx; omega
    by_cases h0 : off < 0
    · have b0 : decide (off < 0) = true := by simpa using h0
      have he : Hid (xerr n f c off m = 2) := by show _ = _; simp [xerr, hx, h0]
      clear hx h0
      go_enter Try.func81, Try.ntmps81
      go_wp2_with (go_at_call 42; refine hv.mono ?_; rintro e w' ⟨rfl, hb⟩)
      go_ret
      exact ⟨ret_int he.out.symm, HB0.out.trans (hb.mono HB0.out.size)⟩
    · have b0 : decide (off < 0) = false := by simpa using h0
      by_cases h1 : m < 0
      · have b1 : decide (m < 0) = true := by simpa using h1
        have he : Hid (xerr n f c off m = 2) := by show _ = _; simp [xerr, hx, h1]
        clear hx h0 h1
        go_enter Try.func81, Try.ntmps81
        go_wp2_with (go_at_call 42; refine hv.mono ?_; rintro e w' ⟨rfl, hb⟩)
        go_ret
        exact ⟨ret_int he.out.symm, HB0.out.trans (hb.mono HB0.out.size)⟩
      · have b1 : decide (m < 0) = false := by simpa using h1
        have hsz : Hid (xsize c = c * 64) := by show _ = _; have := hc.out; simp [xsize]; omega
        have hw : wrap64 (c * 64 - off) = c * 64 - off := by have := hc.out; unfold wrap64; omega
        obtain ⟨r, hr⟩ : ∃ r, decide (c * 64 - off < m) = r := ⟨_, rfl⟩
        have he : Hid (xerr n f c off m = if r then 2 else 0) := by show _ = _; rw [← hr]; simp [xerr, hx, h0, h1]
        clear hx h0 h1
        cases r
        · go_enter Try.func81, Try.ntmps81
          go_wp2_with (first
            | (go_at_call 42; refine hv.mono ?_; rintro e w1 ⟨rfl, hb⟩
               have k0 : w1.cell? ⟨w.heap.size, 0, none⟩ = some (.int .i64 f) := (hb.cell (p := ⟨w.heap.size, 0, none⟩) (by simp)).trans (cell_of_row _ _ 0 _ _ _ HL.out)
               have k1 : w1.cell? ⟨w.heap.size, 1, none⟩ = some (.int .i64 c) := (hb.cell (p := ⟨w.heap.size, 1, none⟩) (by simp)).trans (cell_of_row _ _ 1 _ _ _ HL.out)
               have HB1 := Lib.hid (HB0.out.trans (hb.mono HB0.out.size))
               clear hb)
            | (go_at_call 44; refine (size_any w1 f c).mono ?_; rintro e w2 ⟨rfl, hb2⟩; rw [hsz.out]))
          go_ret
          exact ⟨ret_int (by rw [he.out]; rfl), HB1.out.trans (hb2.mono HB1.out.size)⟩
        · go_enter Try.func81, Try.ntmps81
          go_wp2_with (first
            | (go_at_call 42; refine hv.mono ?_; rintro e w1 ⟨rfl, hb⟩
               have k0 : w1.cell? ⟨w.heap.size, 0, none⟩ = some (.int .i64 f) := (hb.cell (p := ⟨w.heap.size, 0, none⟩) (by simp)).trans (cell_of_row _ _ 0 _ _ _ HL.out)
               have k1 : w1.cell? ⟨w.heap.size, 1, none⟩ = some (.int .i64 c) := (hb.cell (p := ⟨w.heap.size, 1, none⟩) (by simp)).trans (cell_of_row _ _ 1 _ _ _ HL.out)
               have HB1 := Lib.hid (HB0.out.trans (hb.mono HB0.out.size))
               clear hb)
            | (go_at_call 44; refine (size_any w1 f c).mono ?_; rintro e w2 ⟨rfl, hb2⟩; rw [hsz.out]))
          go_ret
          exact ⟨ret_int (by rw [he.out]; rfl), HB1.out.trans (hb2.mono HB1.out.size)⟩

/-- The first sector of a range, and the one behind its last. -/
def sp0 (off m : Nat) : Nat := if m = 0 then 0 else off / 64
def sp1 (off m : Nat) : Nat := if m = 0 then 0 else (off + m - 1) / 64 + 1
theorem tdiv64 {k q : Nat} (h : k / 64 = q) : Int.tdiv (k : Int) 64 = (q : Int) := by rw [Int.tdiv_eq_ediv_of_nonneg (by omega)]; omega
set_option maxHeartbeats 800000 in
theorem span_any (off m : Nat) (w : World) (ho : off ≤ 1000000) (hm : m ≤ 1000000) : Calls Try.prog 82 #[.int .i64 off, .int .i64 m] w fun e w' => e = .returned (.tuple #[.int .i64 (sp0 off m), .int .i64 (sp1 off m)]) ∧ w = w' := by
  by_cases h0 : m = 0
  · subst h0
    have e1 : sp0 off 0 = 0 := rfl
    have e2 : sp1 off 0 = 0 := rfl
    rw [e1, e2]
    go_enter Try.func82, Try.ntmps82
    go_wp2
    go_ret2
    exact ⟨rfl, rfl⟩
  · obtain ⟨q0, hq0⟩ : ∃ q, q = sp0 off m := ⟨_, rfl⟩
    obtain ⟨q1, hq1⟩ : ∃ q, q = sp1 off m := ⟨_, rfl⟩
    rw [← hq0, ← hq1]
    have g0 : ((m : Int) == 0) = false := by simp; omega
    unfold sp0 at hq0
    unfold sp1 at hq1
    rw [if_neg h0] at hq0 hq1
    have t0 : Int.tdiv (off : Int) 64 = (q0 : Int) := tdiv64 hq0.symm
    have w0 : wrap64 (q0 : Int) = (q0 : Int) := by unfold wrap64; omega
    have w1 : wrap64 ((off : Int) + (m : Int)) = (off : Int) + (m : Int) := by unfold wrap64; omega
    have w2 : wrap64 ((off : Int) + (m : Int) - 1) = (off : Int) + (m : Int) - 1 := by unfold wrap64; omega
    have e0 := Lib.hid w0
    have e1 : Hid (wrap64 (((off : Int) + (m : Int) - 1).tdiv 64 + 1) = (q1 : Int)) := by
      show _ = _
      rw [show (off : Int) + (m : Int) - 1 = ((off + m - 1 : Nat) : Int) by omega, tdiv64 (q := q1 - 1) (by omega)]
      unfold wrap64; omega
    clear hq0 hq1 h0 w0
    go_enter Try.func82, Try.ntmps82
    go_wp2
    go_ret2
    exact ⟨by (rw [e0.out, e1.out]) <;> (try rfl), rfl⟩
set_option maxHeartbeats 800000 in
theorem part_any (i off m : Nat) (w : World) (ho : off ≤ 1000000) (hm : m ≤ 1000000) (hi : 64 * i ≤ off + m) : Calls Try.prog 83 #[.int .i64 i, .int .i64 off, .int .i64 m] w fun e w' => e = .returned (.tuple #[.int .i64 (pfrom off i), .int .i64 (pto off m i)]) ∧ w = w' := by
  obtain ⟨q0, hq0⟩ : ∃ q, q = pfrom off i := ⟨_, rfl⟩
  obtain ⟨q1, hq1⟩ : ∃ q, q = pto off m i := ⟨_, rfl⟩
  rw [← hq0, ← hq1]
  unfold pfrom at hq0
  unfold pto at hq1
  have w0 : wrap64 ((i : Int) * 64) = (i : Int) * 64 := by unfold wrap64; omega
  have w1 : wrap64 ((off : Int) - (i : Int) * 64) = (off : Int) - (i : Int) * 64 := by unfold wrap64; omega
  have w2 : wrap64 ((off : Int) + (m : Int)) = (off : Int) + (m : Int) := by unfold wrap64; omega
  have w3 : wrap64 ((off : Int) + (m : Int) - (i : Int) * 64) = (off : Int) + (m : Int) - (i : Int) * 64 := by unfold wrap64; omega
  have hmax := fun (W : World) (ts : Array TypeId) (t : TypeId) => max_two (P := Try.prog) W ts t ((off : Int) - (i : Int) * 64) 0 (q0 : Int) (by omega)
  have hmin := fun (W : World) (ts : Array TypeId) (t : TypeId) => min_two (P := Try.prog) W ts t ((off : Int) + (m : Int) - (i : Int) * 64) 64 (q1 : Int) (by omega)
  clear hq0 hq1 hi ho hm
  go_enter Try.func83, Try.ntmps83
  go_wp2
  go_ret2
  exact ⟨rfl, rfl⟩
end

end Go.Proofs.Ytbcfjkfkkklgbaa
