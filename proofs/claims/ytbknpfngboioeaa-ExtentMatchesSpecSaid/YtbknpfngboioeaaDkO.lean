/-
  Arguments that came in: slices of bytes, of faults, of keeps and of operations, read.
-/
import Derived.Test.YtbknpfngboioeaaDkG
import Derived.Deep.SlicePairs
import Derived.Deep.Slices
import Derived.Deep.Fields
import Derived.ChangeSame
namespace Go.Proofs.Ytbknpfngboioeaa
open Go.RowKit Go.ChangeShapes Go.WideShapes Go.Deep

section
variable {H : Type} {enc : TypeId × Value → H} {w : World} {held : Bool}
def noF : Nat → Prop := fun _ => False
theorem spot_of {a : Addr} {v : Value} (h : w.cell? (a.add 0) = some v) : a = ⟨a.block, a.off, none⟩ ∧ a.block < w.heap.size := by
  have hx0 : a.add 0 = a := by unfold Addr.add; simp
  rw [hx0] at h
  unfold World.cell? at h
  split at h
  · rename_i hh
    by_cases hs : a.spot.isSome = true
    · rw [if_pos hs] at h; cases h
    · have hn : a.spot = none := by simpa using hs
      exact ⟨by cases a; simp_all, (Array.getElem?_eq_some_iff.1 hh).1⟩
  · cases h
theorem add_flat (b off j : Nat) : (⟨b, off, none⟩ : Addr).add j = ⟨b, off + j, none⟩ := by unfold Addr.add; split <;> simp_all

theorem open8 {fuel : Nat} {A : Option Addr} {n c : Nat} {x : DataW H × List MemPlace} (h : DataW.trod enc Try.prog w 0 (fun _ => true) held fuel 32 [.slice A n c] = some x) : ∃ l, Arg8 w A n c l := by
  rcases open_ints tyBs tyU8 (by kernel_rfl) h with ⟨hcs, _⟩ | ⟨y, l, c', zs, hcs, _, hl, hm, hz, _, hcell, hwz⟩
  · simp at hcs
    obtain ⟨rfl, rfl, rfl⟩ := hcs
    exact arg8_of (zs := []) (.inl ⟨rfl, rfl, rfl, rfl⟩)
  · simp at hcs
    obtain ⟨rfl, rfl, rfl⟩ := hcs
    exact arg8_of (zs := zs) (.inr ⟨_, rfl, hl, hm, by simpa using hz, hcell, hwz⟩)

theorem open_pairs {t e : TypeId} {f0 f1 : Field} (ht : Try.prog.underlying t = some (.slice e)) (he : Try.prog.underlying e = some (.struct #[f0, f1])) (ce : Try.prog.cellsOf e = 2) (o0 : f0.offset = 0) (o1 : f1.offset = 1)
    (c0 : Try.prog.cellsOf f0.type = 1) (c1 : Try.prog.cellsOf f1.type = 1) (u0 : Try.prog.underlying f0.type = some (.int .i64)) (u1 : Try.prog.underlying f1.type = some (.int .i64))
    {fuel : Nat} {A : Option Addr} {n c : Nat} {x : DataW H × List MemPlace} (h : DataW.trod enc Try.prog w 0 (fun _ => true) held fuel t [.slice A n c] = some x) : ∃ ps, PairsF noF w A n ps ∧ (A = none → c = 0) ∧ n ≤ maxLen := by
  rcases open_slice_pairs ht he ce o0 o1 c0 c1 h with ⟨hcs, _⟩ | ⟨a, len, cap, m, q, V0, V1, D0, D1, P0, P1, hcs, _, hl, hm, hmm, _, hx⟩
  · simp at hcs
    obtain ⟨rfl, rfl, rfl⟩ := hcs
    exact ⟨[], ⟨rfl, fun p hp => by simp at hp, fun h => absurd h (by omega)⟩, fun _ => rfl, Nat.zero_le _⟩
  · simp at hcs
    obtain ⟨rfl, rfl, rfl⟩ := hcs
    have hnm : n ≤ m := by rw [hmm]; simp; omega
    have each : ∀ i, i < m → ∃ p : Int × Int, w.cell? (a.add (i * 2)) = some (.int .i64 p.1) ∧ w.cell? (a.add (i * 2 + 1)) = some (.int .i64 p.2) ∧ (Lit.int .i64 p.1).wf = true := by
      intro i hi
      obtain ⟨h1, h2, h3, h4⟩ := hx i hi
      obtain ⟨n0, e0, _, w0⟩ := DataW.trod_int u0 h3
      obtain ⟨n1, e1, _, _⟩ := DataW.trod_int u1 h4
      simp at e0 e1
      rw [e0] at h1
      rw [e1] at h2
      exact ⟨(n0, n1), h1, h2, w0⟩
    have hall : ∃ f : Nat → Int × Int, ∀ i, i < m → w.cell? (a.add (i * 2)) = some (.int .i64 (f i).1) ∧ w.cell? (a.add (i * 2 + 1)) = some (.int .i64 (f i).2) ∧ (Lit.int .i64 (f i).1).wf = true := by
      refine ⟨fun i => if hi : i < m then Classical.choose (each i hi) else (0, 0), fun i hi => ?_⟩
      simp only [dif_pos hi]
      exact Classical.choose_spec (each i hi)
    obtain ⟨f, hf⟩ := hall
    refine ⟨(List.range n).map f, ⟨by simp, ?_, fun h0 => ?_⟩, (fun e => by cases e), by omega⟩
    · intro p hp
      obtain ⟨i, hi, rfl⟩ := List.mem_map.1 hp
      have hi' : i < n := List.mem_range.1 hi
      exact bounds_i64 (hf i (by omega)).2.2
    · obtain ⟨ea, hlt⟩ := spot_of (a := a) (by simpa using (hf 0 (by omega)).1)
      refine ⟨a.block, a.off, by rw [← ea], hlt, fun h => h, fun j hj => ?_⟩
      have hj' : j < n := by simpa using hj
      obtain ⟨g1, g2, _⟩ := hf j (by omega)
      rw [ea, add_flat] at g1 g2
      simp only [List.getElem_map, List.getElem_range]
      exact ⟨g1, by rw [Nat.add_assoc]; exact g2⟩

/-- An operation of a script as it came in. -/
structure OpV where
  kind : Int
  sector : Int
  A8 : Option Addr
  n8 : Nat
  c8 : Nat
  l : List UInt8
  Af : Option Addr
  nf : Nat
  cf : Nat
  fs : List (Int × Int)
  Ak : Option Addr
  nk : Nat
  ck : Nat
  ks : List (Int × Int)
structure OpIn (w : World) (o : OpV) : Prop where
  k : -9223372036854775808 ≤ o.kind ∧ o.kind ≤ 9223372036854775807
  s : -9223372036854775808 ≤ o.sector ∧ o.sector ≤ 9223372036854775807
  a8 : Arg8 w o.A8 o.n8 o.c8 o.l
  f : PairsF noF w o.Af o.nf o.fs ∧ (o.Af = none → o.cf = 0) ∧ o.nf ≤ maxLen
  p : PairsF noF w o.Ak o.nk o.ks ∧ (o.Ak = none → o.ck = 0) ∧ o.nk ≤ maxLen
/-- A script that came in. -/
def OpsIn (w : World) (A : Option Addr) (n : Nat) (os : List OpV) : Prop :=
  os.length = n ∧ (0 < n → ∃ b off, A = some ⟨b, off, none⟩ ∧ b < w.heap.size ∧ ∀ j (h : j < os.length), OpIn w os[j] ∧
    w.cell? ⟨b, off + j * 5, none⟩ = some (.int .i64 os[j].kind) ∧ w.cell? ⟨b, off + j * 5 + 1, none⟩ = some (.int .i64 os[j].sector) ∧ w.cell? ⟨b, off + j * 5 + 2, none⟩ = some (.slice os[j].A8 os[j].n8 os[j].c8) ∧
    w.cell? ⟨b, off + j * 5 + 3, none⟩ = some (.slice os[j].Af os[j].nf os[j].cf) ∧ w.cell? ⟨b, off + j * 5 + 4, none⟩ = some (.slice os[j].Ak os[j].nk os[j].ck))

theorem open_flt {fuel : Nat} {A : Option Addr} {n c : Nat} {x : DataW H × List MemPlace} (h : DataW.trod enc Try.prog w 0 (fun _ => true) held fuel 33 [.slice A n c] = some x) : ∃ ps, PairsF noF w A n ps ∧ (A = none → c = 0) ∧ n ≤ maxLen :=
  open_pairs Try.underlying33 Try.underlying70 (by kernel_rfl) rfl rfl (by kernel_rfl) (by kernel_rfl) tyInt tyInt h
theorem open_kps {fuel : Nat} {A : Option Addr} {n c : Nat} {x : DataW H × List MemPlace} (h : DataW.trod enc Try.prog w 0 (fun _ => true) held fuel 34 [.slice A n c] = some x) : ∃ ps, PairsF noF w A n ps ∧ (A = none → c = 0) ∧ n ≤ maxLen :=
  open_pairs Try.underlying34 Try.underlying76 (by kernel_rfl) rfl rfl (by kernel_rfl) (by kernel_rfl) tyInt tyInt h
theorem trod_slice_val {t e : TypeId} (ht : Try.prog.underlying t = some (.slice e)) {fuel : Nat} {v : Value} {x : DataW H × List MemPlace} (h : DataW.trod enc Try.prog w 0 (fun _ => true) held fuel t [v] = some x) : ∃ A n c, v = .slice A n c := by
  rcases open_slice ht h with ⟨hcs, _⟩ | ⟨a, len, cap, _, _, _, _, hcs, _⟩
  · simp at hcs; exact ⟨_, _, _, hcs⟩
  · simp at hcs; exact ⟨_, _, _, hcs⟩

theorem len5 {α : Type} {l : List α} (h : l.length = 5) : ∃ a b c d e, l = [a, b, c, d, e] := by
  cases l with
  | nil => cases h
  | cons a l => cases l with
    | nil => cases h
    | cons b l => cases l with
      | nil => cases h
      | cons c l => cases l with
        | nil => cases h
        | cons d l => cases l with
          | nil => cases h
          | cons e l => cases l with
            | nil => exact ⟨a, b, c, d, e, rfl⟩
            | cons f l => simp at h

theorem open_ops {fuel : Nat} {A : Option Addr} {n c : Nat} {x : DataW H × List MemPlace} (h : DataW.trod enc Try.prog w 0 (fun _ => true) held fuel 22 [.slice A n c] = some x) : ∃ os, OpsIn w A n os ∧ n ≤ maxLen := by
  rcases open_slice Try.underlying22 h with ⟨hcs, _⟩ | ⟨a, len, cap, m, q, D, Pl, hcs, _, hl, hm, hmm, _, hx⟩
  · simp at hcs
    obtain ⟨rfl, rfl, rfl⟩ := hcs
    exact ⟨[], ⟨rfl, fun h => absurd h (by omega)⟩, Nat.zero_le _⟩
  · simp at hcs
    obtain ⟨rfl, rfl, rfl⟩ := hcs
    have hC : Try.prog.cellsOf 36 = 5 := by kernel_rfl
    have hnm : n ≤ m := by rw [hmm]; simp; omega
    have each : ∀ i, i < m → ∃ o : OpV, OpIn w o ∧ w.cell? (a.add (i * 5)) = some (.int .i64 o.kind) ∧ w.cell? (a.add (i * 5 + 1)) = some (.int .i64 o.sector) ∧ w.cell? (a.add (i * 5 + 2)) = some (.slice o.A8 o.n8 o.c8) ∧
        w.cell? (a.add (i * 5 + 3)) = some (.slice o.Af o.nf o.cf) ∧ w.cell? (a.add (i * 5 + 4)) = some (.slice o.Ak o.nk o.ck) := by
      intro i hi
      obtain ⟨cs', hc, ht'⟩ := hx i hi
      rw [hC] at hc
      obtain ⟨_, hcl, hat⟩ := World.cells?_some hc
      obtain ⟨ys, n', hn', hy, hlen, hyl, hf⟩ := DataW.trod_struct Try.underlying36 ht'
      obtain ⟨v0, v1, v2, v3, v4, rfl⟩ := len5 hcl
      · have e0 := hat 0 (by omega)
        have e1 := hat 1 (by omega)
        have e2 := hat 2 (by omega)
        have e3 := hat 3 (by omega)
        have e4 := hat 4 (by omega)
        obtain ⟨y0, y1, y2, y3, y4, rfl⟩ := len5 hyl
        have k0 : Try.prog.cellsOf 3 = 1 := by kernel_rfl
        have k2 : Try.prog.cellsOf 32 = 1 := by kernel_rfl
        have k3 : Try.prog.cellsOf 33 = 1 := by kernel_rfl
        have k4 : Try.prog.cellsOf 34 = 1 := by kernel_rfl
        have t0 : DataW.trod enc Try.prog w 0 (fun _ => true) held n' 3 [v0] = some y0 := by
          have := hf 0 _ rfl
          change DataW.trod _ _ _ _ _ _ _ 3 (List.take (Try.prog.cellsOf 3) _) = _ at this
          rw [k0] at this
          exact this
        have t1 : DataW.trod enc Try.prog w 0 (fun _ => true) held n' 3 [v1] = some y1 := by
          have := hf 1 _ rfl
          change DataW.trod _ _ _ _ _ _ _ 3 (List.take (Try.prog.cellsOf 3) _) = _ at this
          rw [k0] at this
          exact this
        have t2 : DataW.trod enc Try.prog w 0 (fun _ => true) held n' 32 [v2] = some y2 := by
          have := hf 2 _ rfl
          change DataW.trod _ _ _ _ _ _ _ 32 (List.take (Try.prog.cellsOf 32) _) = _ at this
          rw [k2] at this
          exact this
        have t3 : DataW.trod enc Try.prog w 0 (fun _ => true) held n' 33 [v3] = some y3 := by
          have := hf 3 _ rfl
          change DataW.trod _ _ _ _ _ _ _ 33 (List.take (Try.prog.cellsOf 33) _) = _ at this
          rw [k3] at this
          exact this
        have t4 : DataW.trod enc Try.prog w 0 (fun _ => true) held n' 34 [v4] = some y4 := by
          have := hf 4 _ rfl
          change DataW.trod _ _ _ _ _ _ _ 34 (List.take (Try.prog.cellsOf 34) _) = _ at this
          rw [k4] at this
          exact this
        obtain ⟨z0, r0, _, w0⟩ := DataW.trod_int tyInt t0
        obtain ⟨z1, r1, _, w1⟩ := DataW.trod_int tyInt t1
        obtain ⟨A2, n2, c2, rfl⟩ := trod_slice_val tyBs t2
        obtain ⟨A3, n3, c3, rfl⟩ := trod_slice_val Try.underlying33 t3
        obtain ⟨A4, n4, c4, rfl⟩ := trod_slice_val Try.underlying34 t4
        obtain ⟨l, hl8⟩ := open8 t2
        obtain ⟨fs, hfs⟩ := open_flt t3
        obtain ⟨ks, hks⟩ := open_kps t4
        simp at r0 r1
        subst r0 r1
        rw [Go.Deep.add_add] at e0 e1 e2 e3 e4
        exact ⟨⟨z0, z1, A2, n2, c2, l, A3, n3, c3, fs, A4, n4, c4, ks⟩, ⟨bounds_i64 w0, bounds_i64 w1, hl8, hfs, hks⟩, e0, e1, e2, e3, e4⟩
    have hall : ∃ f : Nat → OpV, ∀ i, i < m → OpIn w (f i) ∧ w.cell? (a.add (i * 5)) = some (.int .i64 (f i).kind) ∧ w.cell? (a.add (i * 5 + 1)) = some (.int .i64 (f i).sector) ∧ w.cell? (a.add (i * 5 + 2)) = some (.slice (f i).A8 (f i).n8 (f i).c8) ∧
        w.cell? (a.add (i * 5 + 3)) = some (.slice (f i).Af (f i).nf (f i).cf) ∧ w.cell? (a.add (i * 5 + 4)) = some (.slice (f i).Ak (f i).nk (f i).ck) := by
      refine ⟨fun i => if hi : i < m then Classical.choose (each i hi) else ⟨0, 0, none, 0, 0, [], none, 0, 0, [], none, 0, 0, []⟩, fun i hi => ?_⟩
      simp only [dif_pos hi]
      exact Classical.choose_spec (each i hi)
    obtain ⟨f, hf⟩ := hall
    refine ⟨(List.range n).map f, ⟨by simp, fun h0 => ?_⟩, by omega⟩
    obtain ⟨ea, hlt⟩ := spot_of (a := a) (by simpa using (hf 0 (by omega)).2.1)
    refine ⟨a.block, a.off, by rw [← ea], hlt, fun j hj => ?_⟩
    have hj' : j < n := by simpa using hj
    have hfj := hf j (by omega)
    rw [ea] at hfj
    simp only [add_flat] at hfj
    simp only [List.getElem_map, List.getElem_range]
    obtain ⟨g0, g1, g2, g3, g4, g5⟩ := hfj
    exact ⟨g0, g1, by rw [Nat.add_assoc]; exact g2, by rw [Nat.add_assoc]; exact g3, by rw [Nat.add_assoc]; exact g4, by rw [Nat.add_assoc]; exact g5⟩
end

end Go.Proofs.Ytbknpfngboioeaa
