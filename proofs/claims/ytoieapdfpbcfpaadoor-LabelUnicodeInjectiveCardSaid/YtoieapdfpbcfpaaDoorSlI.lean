/-
  slices.Insert of one number into a slice of numbers of one's own.
-/
import Derived.Test.YtoieapdfpbcfpaaDoorApp
import Derived.Test.YtoieapdfpbcfpaaDoorPuQ
import Derived.Test.YtoieapdfpbcfpaaDoorShelfI
import Derived.Laws.IdiomCopy
namespace Go.Proofs.YtoieapdfpbcfpaaDoor
open Go.RowKit

/-- A row with values laid over it. -/
def layA : Array Value → Nat → List Value → Array Value
  | cur, _, [] => cur
  | cur, o, v :: r => layA (cur.setIfInBounds o v) (o + 1) r
theorem layA_size : ∀ (vs : List Value) (cur : Array Value) (o : Nat), (layA cur o vs).size = cur.size
  | [], _, _ => rfl
  | v :: r, cur, o => by rw [layA, layA_size r]; simp
theorem layA_list : ∀ (vs : List Value) (cur : Array Value) (o : Nat), o + vs.length ≤ cur.size → (layA cur o vs).toList = cur.toList.take o ++ vs ++ cur.toList.drop (o + vs.length)
  | [], cur, o, _ => by simp [layA]
  | v :: r, cur, o, h => by
    have h' : o + (r.length + 1) ≤ cur.size := by simpa using h
    have hl : o < cur.toList.length := by simp; omega
    rw [layA, layA_list r _ _ (by simp; omega), Array.toList_setIfInBounds]
    have e1 : (cur.toList.set o v).take (o + 1) = cur.toList.take o ++ [v] := by
      rw [List.take_succ_eq_append_getElem (by rw [List.length_set]; exact hl), List.getElem_set_self, List.take_set_of_le (Nat.le_refl _)]
    have e2 : (cur.toList.set o v).drop (o + 1 + r.length) = cur.toList.drop (o + (r.length + 1)) := by
      rw [List.drop_set_of_lt (by omega), show o + 1 + r.length = o + (r.length + 1) by omega]
    rw [e1, e2, List.length_cons]
    simp
theorem heap_lay {g : Nat} {t : TypeId} : ∀ (vs : List Value) (o : Nat) (w : World) (cur : Array Value), w.heap[g]? = some (.cells cur t (0, 0)) → (w.setCells g o vs).heap[g]? = some (.cells (layA cur o vs) t (0, 0))
  | [], _, _, _, h => h
  | v :: r, o, w, cur, h => by
    rw [World.setCells, layA]
    exact heap_lay r (o + 1) _ _ (heap_setCell_same w g o cur t v h)
theorem lay_below {B g : Nat} {a : World} (hg : B ≤ g) : ∀ (vs : List Value) (o : Nat) (w : World), Below B a w → Below B a (w.setCells g o vs)
  | [], _, _, h => h
  | v :: r, o, w, h => by
    rw [World.setCells]
    exact lay_below hg r (o + 1) _ (h.setCell hg v)
theorem own_row {w : World} {base g cap n : Nat} {t : TypeId} {cur : Array Value} {xs : List Value} (h : w.heap[g]? = some (.cells cur t (0, 0))) (hb : base ≤ g) (hn : n ≤ cap) (hc : cap ≤ maxLen) (hs : cur.size = cap) (hx : xs.length = n) (ht : cur.toList.take n = xs) :
    w.ownsRow base t 1 (.slice (some ⟨g, 0, none⟩) n cap) n xs := ⟨by omega, .inr ⟨g, cap, cur, rfl, hb, h, hn, hc, by omega, by rw [Nat.mul_one]; exact ht⟩⟩
theorem take_three (A C D : List Value) (u : Value) (n : Nat) (h : A.length + 1 + C.length = n) : (A ++ [u] ++ C ++ D).take n = A ++ u :: C := by
  rw [List.take_append, List.take_of_length_le (by simp; omega), show n - (A ++ [u] ++ C).length = 0 by simp; omega, List.take_zero, List.append_nil]
  simp

set_option maxRecDepth 20000 in
/-- slices.Insert of one number. -/
theorem ins_any (base : Nat) (w0 wr : World) (v : Value) (L ps : Nat) (xs : List Value) (u : Value) (hown : wr.ownsRow base 3 1 v L xs) (hb : Below base w0 wr) (hB : base ≤ w0.heap.size) (hps : ps ≤ L) (hL : L ≤ 1000000) (hu : u.oneCell' = true) (h1 : ∀ x ∈ xs, x.oneCell' = true) :
    Calls Tryd.prog 60 #[v, .int .i64 (ps : Int), .slice (some ⟨wr.heap.size, 0, none⟩) 1 1] (wr.alloc (.cells #[u] 3)) fun e w' => (∃ v', e = .returned v' ∧ w'.ownsRow base 3 1 v' (L + 1) (xs.take ps ++ u :: xs.drop ps)) ∧ Below base w0 w' := by
  have hbase : base ≤ wr.heap.size := Nat.le_trans hB hb.size
  obtain ⟨W, hW⟩ : ∃ W, W = wr.alloc (.cells #[u] 3) := ⟨_, rfl⟩
  have hownW : W.ownsRow base 3 1 v L xs := by rw [hW]; exact hown.alloc _
  have hbW : Below base w0 W := by rw [hW]; exact hb.alloc hbase _
  have hWs : W.heap.size = wr.heap.size + 1 := by rw [hW]; show (wr.heap.push _).size = _; simp
  have hvc : W.heap[wr.heap.size]? = some (.cells #[u] 3 (0, 0)) := by rw [hW]; exact heap_alloc_new wr _
  have hvs : ∀ j x, [u][j]? = some x → W.cell? ⟨wr.heap.size, 0 + j, none⟩ = some x := by
    intro j x hj
    match j, hj with
    | 0, hj =>
      simp at hj
      subst hj
      exact cell_of_one hvc
  have h1v : ∀ x ∈ [u], x.oneCell' = true := by intro x hx; simp at hx; subst hx; exact hu
  have hxl : xs.length = L := by have := hownW.1; omega
  have hren : Tryd.laysIns_ren.t 3 = 3 := rfl
  have hlt := hown.lt
  rw [← hW]
  rcases hownW.2 with ⟨rfl, h0⟩ | ⟨g, cap, cur, rfl, hg, hr, hnc, hcm, hsz, htk⟩
  · subst h0
    obtain rfl : ps = 0 := by omega
    obtain rfl : xs = [] := List.eq_nil_of_length_eq_zero hxl
    refine (Any2.slices_Insert_int_end_grow Tryd.laysIns none 0 0 wr.heap.size 0 1 1 [] [u] W (by omega) (by omega) (by omega) (by omega) rfl rfl (fun _ => rfl) (fun a e => by cases e) hvs h1v).mono ?_
    rintro e w' ⟨rfl, rfl⟩
    rw [hren]
    refine ⟨⟨_, rfl, ?_⟩, ?_⟩
    · refine own_row (cur := _) (heap_alloc_new W.drew _) (by show base ≤ W.heap.size; omega) (grownCap_ge _ _ _ _) (grownCap_le_maxLen _ _ _ _ (by unfold maxLen; omega)) ?_ rfl ?_
      · have := grownCap_ge W 1 0 3
        simp [Builtin.zeroCells, Value.cells]
        omega
      · simp
    · exact (hbW.drew).alloc (by show base ≤ W.heap.size; omega) _
  · have hgne : wr.heap.size ≠ g := by
      have := (hlt g rfl).2
      omega
    have hcs : ∀ j x, xs[j]? = some x → W.cell? ⟨g, 0 + j, none⟩ = some x := by
      intro j x hj
      have := hownW.cells (g := g) rfl j x hj
      have hadd : (⟨g, 0, none⟩ : Addr).add j = ⟨g, j, none⟩ := by unfold Addr.add; split <;> simp_all
      rw [hadd] at this
      rw [Nat.zero_add]
      exact this
    have hcell : ∀ j, W.cell? ⟨g, j, none⟩ = cur[j]? := fun j => cell_of_row W g j cur _ (0, 0) hr
    have hszc : cur.size = cap := by omega
    have hsp : ∀ j, j < cap → (W.cell? ⟨g, j, none⟩).isSome = true := by
      intro j hj
      rw [hcell, Array.getElem?_eq_getElem (by omega)]
      rfl
    have hfz : ∀ j, W.frozen? ⟨g, j, none⟩ = false := fun j => frozen_of_row W g j cur _ hr
    rw [Nat.mul_one] at htk
    have hmx : maxLen = 9223372036854775807 := rfl
    by_cases hend : ps = L
    · subst hend
      have hxt : xs.take ps = xs := List.take_of_length_le (by omega)
      have hxd : xs.drop ps = [] := List.drop_of_length_le (by omega)
      rw [hxt, hxd]
      by_cases hroom : ps + 1 ≤ cap
      · refine (Any2.slices_Insert_int_end_room Tryd.laysIns g 0 ps cap wr.heap.size 0 1 1 [u] W (by omega) hroom (by omega) rfl (fun j hj => hsp _ (by omega)) (fun j hj => hfz _) hvs h1v).mono ?_
        rintro e w' ⟨rfl, rfl⟩
        refine ⟨⟨_, rfl, ?_⟩, lay_below hg _ _ _ hbW⟩
        have hh := heap_lay [u] (0 + ps) W cur hr
        refine own_row hh hg hroom hcm (by rw [layA_size]; exact hszc) (by simp; omega) ?_
        rw [layA_list _ _ _ (by simp; omega), Nat.zero_add, htk]
        have := take_three xs [] (cur.toList.drop (ps + [u].length)) u (ps + 1) (by simp; omega)
        rw [List.append_nil] at this
        exact this
      · refine (Any2.slices_Insert_int_end_grow Tryd.laysIns (some ⟨g, 0, none⟩) ps cap wr.heap.size 0 1 1 xs [u] W (by omega) hnc (by omega) (by omega) hxl rfl (fun e => by cases e) (fun a e j x hj => by
          injection e with e
          subst e
          have hadd : (⟨g, 0, none⟩ : Addr).add j = ⟨g, 0 + j, none⟩ := by unfold Addr.add; split <;> simp_all
          rw [hadd]
          exact hcs j x hj) hvs h1v).mono ?_
        rintro e w' ⟨rfl, rfl⟩
        rw [hren]
        refine ⟨⟨_, rfl, ?_⟩, ?_⟩
        · refine own_row (heap_alloc_new W.drew _) (by show base ≤ W.heap.size; omega) (grownCap_ge _ _ _ _) (grownCap_le_maxLen _ _ _ _ (by unfold maxLen; omega)) ?_ (by simp; omega) ?_
          · have := grownCap_ge W (ps + 1) cap 3
            simp [Builtin.zeroCells, Value.cells, hxl]
            omega
          · rw [Array.toList_append]
            rw [List.take_append_of_le_length (by simp; omega)]
            exact List.take_of_length_le (by simp; omega)
        · exact (hbW.drew).alloc (by show base ≤ W.heap.size; omega) _
    · have hlt' : ps < L := by omega
      have hdl : (xs.drop ps).length = L - ps := by rw [List.length_drop, hxl]
      have htl : (xs.take ps).length = ps := by rw [List.length_take]; omega
      by_cases hroom : L + 1 ≤ cap
      · refine (Any2.slices_Insert_int_shift Tryd.laysIns g 0 L cap ps wr.heap.size 0 1 1 xs [u] W hlt' (by omega) hroom (by omega) hgne hxl rfl hcs (fun j hj => by rw [Nat.zero_add]; exact hsp _ (by omega)) (fun j hj => hfz _) hvs h1 h1v 3 3 1 cap ?_ ?_ (by omega) ?_ ?_).mono ?_
        · simp [World.shape?, hvc]
        · simp [World.shape?, hr, hszc]
        · exact frozen_of_row W _ _ _ _ hvc
        · exact frozen_of_row W _ _ _ _ hvc
        · rintro e w' ⟨rfl, rfl⟩
          refine ⟨⟨_, rfl, ?_⟩, lay_below hg _ _ _ (lay_below hg _ _ _ hbW.drew)⟩
          have hh := heap_lay [u] (0 + ps) _ _ (heap_lay (xs.drop ps) (0 + (ps + 1)) W.drew cur hr)
          refine own_row hh hg hroom hcm (by rw [layA_size, layA_size]; exact hszc) (by simp; omega) ?_
          rw [Nat.zero_add, Nat.zero_add, layA_list _ _ _ (by rw [layA_size]; simp; omega), layA_list _ _ _ (by rw [hdl]; omega), hdl]
          have hcl : cur.toList.length = cap := by rw [Array.length_toList]; exact hszc
          have e1 : ((cur.toList.take (ps + 1) ++ xs.drop ps) ++ cur.toList.drop (ps + 1 + (L - ps))).take ps = xs.take ps := by
            rw [List.append_assoc, List.take_append_of_le_length (by rw [List.length_take]; omega), List.take_take, ← htk, List.take_take]
            congr 1
            omega
          have e2 : ((cur.toList.take (ps + 1) ++ xs.drop ps) ++ cur.toList.drop (ps + 1 + (L - ps))).drop (ps + [u].length) = xs.drop ps ++ cur.toList.drop (ps + 1 + (L - ps)) := by
            rw [List.append_assoc, List.drop_append, List.drop_of_length_le (by rw [List.length_take]; simp; omega), List.nil_append, List.length_take, show ps + [u].length - min (ps + 1) cur.toList.length = 0 by simp; omega, List.drop_zero]
          rw [e1, e2, ← List.append_assoc]
          exact take_three _ _ _ _ _ (by rw [htl, hdl]; omega)
      · refine (Any2.slices_Insert_int_grow Tryd.laysIns g 0 L cap ps wr.heap.size 0 1 1 xs [u] W hlt' (by omega) hnc (by omega) (by omega) hxl rfl hcs hvs h1 h1v).mono ?_
        rintro e w' ⟨rfl, rfl⟩
        rw [hren]
        have hG := grownCap_ge W (L + 1) cap 3
        obtain ⟨G, hGe⟩ : ∃ G, G = grownCap W (L + 1) cap 3 := ⟨_, rfl⟩
        have hGm : G ≤ maxLen := by rw [hGe]; exact grownCap_le_maxLen _ _ _ _ (by unfold maxLen; omega)
        rw [← hGe] at hG ⊢
        obtain ⟨ROW, hROW⟩ : ∃ ROW : Array Value, ROW = (xs.take ps).toArray ++ Builtin.zeroCells (Value.int .i64 0).cells (L + 1 - ps) ++ Builtin.zeroCells (Value.int .i64 0).cells (G - (L + 1)) := ⟨_, rfl⟩
        rw [← hROW]
        have hRs : ROW.size = G := by
          rw [hROW]
          simp [Builtin.zeroCells, Value.cells, htl]
          omega
        have hRt : ROW.toList.take ps = xs.take ps := by
          rw [hROW, Array.toList_append, Array.toList_append, List.append_assoc, List.take_append_of_le_length (by simp; omega)]
          exact List.take_of_length_le (by simp; omega)
        have hrow : (W.alloc (.cells ROW 3)).drew.heap[W.heap.size]? = some (.cells ROW 3 (0, 0)) := heap_alloc_new W _
        have hsz2 : base ≤ W.heap.size := by omega
        refine ⟨⟨_, rfl, ?_⟩, lay_below hsz2 _ _ _ (lay_below hsz2 _ _ _ (hbW.alloc hsz2 _).drew).drew⟩
        have hh := heap_lay (xs.drop ps) (ps + 1) ((W.alloc (.cells ROW 3)).drew.setCells W.heap.size ps [u]).drew _ (heap_lay [u] ps (W.alloc (.cells ROW 3)).drew ROW hrow)
        refine own_row hh hsz2 hG hGm (by rw [layA_size, layA_size]; exact hRs) (by simp; omega) ?_
        rw [layA_list _ _ _ (by rw [layA_size, hdl]; omega), layA_list _ _ _ (by simp; omega), hRt]
        have e1 : (xs.take ps ++ [u] ++ ROW.toList.drop (ps + [u].length)).take (ps + 1) = xs.take ps ++ [u] := by
          rw [List.take_append_of_le_length (by simp; omega)]
          exact List.take_of_length_le (by simp; omega)
        rw [e1]
        exact take_three _ _ _ _ _ (by rw [htl, hdl]; omega)

end Go.Proofs.YtoieapdfpbcfpaaDoor
