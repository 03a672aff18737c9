/-
slices.Insert of one number into a slice of numbers of one's own.
Contract of package punycode's Decode.
-/
import Derived.Test.YthoolifdmemceaaGreatDoorB02
import Derived.Test.YthoolifdmemceaaGreatDoorB10
import Derived.Test.YthoolifdmemceaaGreatDoorShelfI
import Derived.Laws.IdiomCopy
import Derived.Test.YthoolifdmemceaaGreatDoorB19
import Derived.Deep.LoopGhost
import Derived.BigQuiet
import Derived.Deep.CutRange
import Derived.Deep.CutBlock
namespace Go.Proofs.YthoolifdmemceaaGreatDoor
section
open Go.RowKit

/-- A row with values laid over it. -/
def layA : Array Value → Nat → List Value → Array Value
  | cur, _, [] => cur
  | cur, o, v :: r => layA (cur.setIfInBounds o v) (o + 1) r
theorem layA_size : ∀ (vs : List Value) (cur : Array Value) (o : Nat), (layA cur o vs).size = cur.size
  | [], _, _ => rfl
  | v :: r, cur, o => by rw [layA, layA_size r]; simp
theorem layA_list : ∀ (vs : List Value) (cur : Array Value) (o : Nat), o + vs.length ≤ cur.size → (layA cur o vs).toList = cur.toList.take o ++ vs ++ cur.toList.drop (o + vs.length)
  | [], cur, o, _ => by simp [layA]
  | v :: r, cur, o, h => by
    have h' : o + (r.length + 1) ≤ cur.size := by simpa using h
    have hl : o < cur.toList.length := by simp; omega
    rw [layA, layA_list r _ _ (by simp; omega), Array.toList_setIfInBounds]
    have e1 : (cur.toList.set o v).take (o + 1) = cur.toList.take o ++ [v] := by
      rw [List.take_succ_eq_append_getElem (by rw [List.length_set]; exact hl), List.getElem_set_self, List.take_set_of_le (Nat.le_refl _)]
    have e2 : (cur.toList.set o v).drop (o + 1 + r.length) = cur.toList.drop (o + (r.length + 1)) := by
      rw [List.drop_set_of_lt (by omega), show o + 1 + r.length = o + (r.length + 1) by omega]
    rw [e1, e2, List.length_cons]
    simp
theorem heap_lay {g : Nat} {t : TypeId} : ∀ (vs : List Value) (o : Nat) (w : World) (cur : Array Value), w.heap[g]? = some (.cells cur t (0, 0)) → (w.setCells g o vs).heap[g]? = some (.cells (layA cur o vs) t (0, 0))
  | [], _, _, _, h => h
  | v :: r, o, w, cur, h => by
    rw [World.setCells, layA]
    exact heap_lay r (o + 1) _ _ (heap_setCell_same w g o cur t v h)
theorem lay_below {B g : Nat} {a : World} (hg : B ≤ g) : ∀ (vs : List Value) (o : Nat) (w : World), Below B a w → Below B a (w.setCells g o vs)
  | [], _, _, h => h
  | v :: r, o, w, h => by
    rw [World.setCells]
    exact lay_below hg r (o + 1) _ (h.setCell hg v)
theorem own_row {w : World} {base g cap n : Nat} {t : TypeId} {cur : Array Value} {xs : List Value} (h : w.heap[g]? = some (.cells cur t (0, 0))) (hb : base ≤ g) (hn : n ≤ cap) (hc : cap ≤ maxLen) (hs : cur.size = cap) (hx : xs.length = n) (ht : cur.toList.take n = xs) :
    w.ownsRow base t 1 (.slice (some ⟨g, 0, none⟩) n cap) n xs := ⟨by omega, .inr ⟨g, cap, cur, rfl, hb, h, hn, hc, by omega, by rw [Nat.mul_one]; exact ht⟩⟩
theorem take_three (A C D : List Value) (u : Value) (n : Nat) (h : A.length + 1 + C.length = n) : (A ++ [u] ++ C ++ D).take n = A ++ u :: C := by
  rw [List.take_append, List.take_of_length_le (by simp; omega), show n - (A ++ [u] ++ C).length = 0 by simp; omega, List.take_zero, List.append_nil]
  simp

set_option maxRecDepth 20000 in
/-- slices.Insert of one number. -/
theorem ins_any (base : Nat) (w0 wr : World) (v : Value) (L ps : Nat) (xs : List Value) (u : Value) (hown : wr.ownsRow base 3 1 v L xs) (hb : Below base w0 wr) (hB : base ≤ w0.heap.size) (hps : ps ≤ L) (hL : L ≤ 1000000) (hu : u.oneCell' = true) (h1 : ∀ x ∈ xs, x.oneCell' = true) :
    Calls Tryz.prog 91 #[v, .int .i64 (ps : Int), .slice (some ⟨wr.heap.size, 0, none⟩) 1 1] (wr.alloc (.cells #[u] 3)) fun e w' => (∃ v', e = .returned v' ∧ w'.ownsRow base 3 1 v' (L + 1) (xs.take ps ++ u :: xs.drop ps)) ∧ Below base w0 w' := by
  have hbase : base ≤ wr.heap.size := Nat.le_trans hB hb.size
  obtain ⟨W, hW⟩ : ∃ W, W = wr.alloc (.cells #[u] 3) := ⟨_, rfl⟩
  have hownW : W.ownsRow base 3 1 v L xs := by rw [hW]; exact hown.alloc _
  have hbW : Below base w0 W := by rw [hW]; exact hb.alloc hbase _
  have hWs : W.heap.size = wr.heap.size + 1 := by rw [hW]; show (wr.heap.push _).size = _; simp
  have hvc : W.heap[wr.heap.size]? = some (.cells #[u] 3 (0, 0)) := by rw [hW]; exact heap_alloc_new wr _
  have hvs : ∀ j x, [u][j]? = some x → W.cell? ⟨wr.heap.size, 0 + j, none⟩ = some x := by
    intro j x hj
    match j, hj with
    | 0, hj =>
      simp at hj
      subst hj
      exact cell_of_one hvc
  have h1v : ∀ x ∈ [u], x.oneCell' = true := by intro x hx; simp at hx; subst hx; exact hu
  have hxl : xs.length = L := by have := hownW.1; omega
  have hren : Tryz.laysIns_ren.t 3 = 3 := rfl
  have hlt := hown.lt
  rw [← hW]
  rcases hownW.2 with ⟨rfl, h0⟩ | ⟨g, cap, cur, rfl, hg, hr, hnc, hcm, hsz, htk⟩
  · subst h0
    obtain rfl : ps = 0 := by omega
    obtain rfl : xs = [] := List.eq_nil_of_length_eq_zero hxl
    refine (Any2.slices_Insert_int_end_grow Tryz.laysIns none 0 0 wr.heap.size 0 1 1 [] [u] W (by omega) (by omega) (by omega) (by omega) rfl rfl (fun _ => rfl) (fun a e => by cases e) hvs h1v).mono ?_
    rintro e w' ⟨rfl, rfl⟩
    rw [hren]
    refine ⟨⟨_, rfl, ?_⟩, ?_⟩
    · refine own_row (cur := _) (heap_alloc_new W.drew _) (by show base ≤ W.heap.size; omega) (grownCap_ge _ _ _ _) (grownCap_le_maxLen _ _ _ _ (by unfold maxLen; omega)) ?_ rfl ?_
      · have := grownCap_ge W 1 0 3
        simp [Builtin.zeroCells, Value.cells]
        omega
      · simp
    · exact (hbW.drew).alloc (by show base ≤ W.heap.size; omega) _
  · have hgne : wr.heap.size ≠ g := by
      have := (hlt g rfl).2
      omega
    have hcs : ∀ j x, xs[j]? = some x → W.cell? ⟨g, 0 + j, none⟩ = some x := by
      intro j x hj
      have := hownW.cells (g := g) rfl j x hj
      have hadd : (⟨g, 0, none⟩ : Addr).add j = ⟨g, j, none⟩ := by unfold Addr.add; split <;> simp_all
      rw [hadd] at this
      rw [Nat.zero_add]
      exact this
    have hcell : ∀ j, W.cell? ⟨g, j, none⟩ = cur[j]? := fun j => cell_of_row W g j cur _ (0, 0) hr
    have hszc : cur.size = cap := by omega
    have hsp : ∀ j, j < cap → (W.cell? ⟨g, j, none⟩).isSome = true := by
      intro j hj
      rw [hcell, Array.getElem?_eq_getElem (by omega)]
      rfl
    have hfz : ∀ j, W.frozen? ⟨g, j, none⟩ = false := fun j => frozen_of_row W g j cur _ hr
    rw [Nat.mul_one] at htk
    have hmx : maxLen = 9223372036854775807 := rfl
    by_cases hend : ps = L
    · subst hend
      have hxt : xs.take ps = xs := List.take_of_length_le (by omega)
      have hxd : xs.drop ps = [] := List.drop_of_length_le (by omega)
      rw [hxt, hxd]
      by_cases hroom : ps + 1 ≤ cap
      · refine (Any2.slices_Insert_int_end_room Tryz.laysIns g 0 ps cap wr.heap.size 0 1 1 [u] W (by omega) hroom (by omega) rfl (fun j hj => hsp _ (by omega)) (fun j hj => hfz _) hvs h1v).mono ?_
        rintro e w' ⟨rfl, rfl⟩
        refine ⟨⟨_, rfl, ?_⟩, lay_below hg _ _ _ hbW⟩
        have hh := heap_lay [u] (0 + ps) W cur hr
        refine own_row hh hg hroom hcm (by rw [layA_size]; exact hszc) (by simp; omega) ?_
        rw [layA_list _ _ _ (by simp; omega), Nat.zero_add, htk]
        have := take_three xs [] (cur.toList.drop (ps + [u].length)) u (ps + 1) (by simp; omega)
        rw [List.append_nil] at this
        exact this
      · refine (Any2.slices_Insert_int_end_grow Tryz.laysIns (some ⟨g, 0, none⟩) ps cap wr.heap.size 0 1 1 xs [u] W (by omega) hnc (by omega) (by omega) hxl rfl (fun e => by cases e) (fun a e j x hj => by
          injection e with e
          subst e
          have hadd : (⟨g, 0, none⟩ : Addr).add j = ⟨g, 0 + j, none⟩ := by unfold Addr.add; split <;> simp_all
          rw [hadd]
          exact hcs j x hj) hvs h1v).mono ?_
        rintro e w' ⟨rfl, rfl⟩
        rw [hren]
        refine ⟨⟨_, rfl, ?_⟩, ?_⟩
        · refine own_row (heap_alloc_new W.drew _) (by show base ≤ W.heap.size; omega) (grownCap_ge _ _ _ _) (grownCap_le_maxLen _ _ _ _ (by unfold maxLen; omega)) ?_ (by simp; omega) ?_
          · have := grownCap_ge W (ps + 1) cap 3
            simp [Builtin.zeroCells, Value.cells, hxl]
            omega
          · rw [Array.toList_append]
            rw [List.take_append_of_le_length (by simp; omega)]
            exact List.take_of_length_le (by simp; omega)
        · exact (hbW.drew).alloc (by show base ≤ W.heap.size; omega) _
    · have hlt' : ps < L := by omega
      have hdl : (xs.drop ps).length = L - ps := by rw [List.length_drop, hxl]
      have htl : (xs.take ps).length = ps := by rw [List.length_take]; omega
      by_cases hroom : L + 1 ≤ cap
      · refine (Any2.slices_Insert_int_shift Tryz.laysIns g 0 L cap ps wr.heap.size 0 1 1 xs [u] W hlt' (by omega) hroom (by omega) hgne hxl rfl hcs (fun j hj => by rw [Nat.zero_add]; exact hsp _ (by omega)) (fun j hj => hfz _) hvs h1 h1v 3 3 1 cap ?_ ?_ (by omega) ?_ ?_).mono ?_
        · simp [World.shape?, hvc]
        · simp [World.shape?, hr, hszc]
        · exact frozen_of_row W _ _ _ _ hvc
        · exact frozen_of_row W _ _ _ _ hvc
        · rintro e w' ⟨rfl, rfl⟩
          refine ⟨⟨_, rfl, ?_⟩, lay_below hg _ _ _ (lay_below hg _ _ _ hbW.drew)⟩
          have hh := heap_lay [u] (0 + ps) _ _ (heap_lay (xs.drop ps) (0 + (ps + 1)) W.drew cur hr)
          refine own_row hh hg hroom hcm (by rw [layA_size, layA_size]; exact hszc) (by simp; omega) ?_
          rw [Nat.zero_add, Nat.zero_add, layA_list _ _ _ (by rw [layA_size]; simp; omega), layA_list _ _ _ (by rw [hdl]; omega), hdl]
          have hcl : cur.toList.length = cap := by rw [Array.length_toList]; exact hszc
          have e1 : ((cur.toList.take (ps + 1) ++ xs.drop ps) ++ cur.toList.drop (ps + 1 + (L - ps))).take ps = xs.take ps := by
            rw [List.append_assoc, List.take_append_of_le_length (by rw [List.length_take]; omega), List.take_take, ← htk, List.take_take]
            congr 1
            omega
          have e2 : ((cur.toList.take (ps + 1) ++ xs.drop ps) ++ cur.toList.drop (ps + 1 + (L - ps))).drop (ps + [u].length) = xs.drop ps ++ cur.toList.drop (ps + 1 + (L - ps)) := by
            rw [List.append_assoc, List.drop_append, List.drop_of_length_le (by rw [List.length_take]; simp; omega), List.nil_append, List.length_take, show ps + [u].length - min (ps + 1) cur.toList.length = 0 by simp; omega, List.drop_zero]
          rw [e1, e2, ← List.append_assoc]
          exact take_three _ _ _ _ _ (by rw [htl, hdl]; omega)
      · refine (Any2.slices_Insert_int_grow Tryz.laysIns g 0 L cap ps wr.heap.size 0 1 1 xs [u] W hlt' (by omega) hnc (by omega) (by omega) hxl rfl hcs hvs h1 h1v).mono ?_
        rintro e w' ⟨rfl, rfl⟩
        rw [hren]
        have hG := grownCap_ge W (L + 1) cap 3
        obtain ⟨G, hGe⟩ : ∃ G, G = grownCap W (L + 1) cap 3 := ⟨_, rfl⟩
        have hGm : G ≤ maxLen := by rw [hGe]; exact grownCap_le_maxLen _ _ _ _ (by unfold maxLen; omega)
        rw [← hGe] at hG ⊢
        obtain ⟨ROW, hROW⟩ : ∃ ROW : Array Value, ROW = (xs.take ps).toArray ++ Builtin.zeroCells (Value.int .i64 0).cells (L + 1 - ps) ++ Builtin.zeroCells (Value.int .i64 0).cells (G - (L + 1)) := ⟨_, rfl⟩
        rw [← hROW]
        have hRs : ROW.size = G := by
          rw [hROW]
          simp [Builtin.zeroCells, Value.cells, htl]
          omega
        have hRt : ROW.toList.take ps = xs.take ps := by
          rw [hROW, Array.toList_append, Array.toList_append, List.append_assoc, List.take_append_of_le_length (by simp; omega)]
          exact List.take_of_length_le (by simp; omega)
        have hrow : (W.alloc (.cells ROW 3)).drew.heap[W.heap.size]? = some (.cells ROW 3 (0, 0)) := heap_alloc_new W _
        have hsz2 : base ≤ W.heap.size := by omega
        refine ⟨⟨_, rfl, ?_⟩, lay_below hsz2 _ _ _ (lay_below hsz2 _ _ _ (hbW.alloc hsz2 _).drew).drew⟩
        have hh := heap_lay (xs.drop ps) (ps + 1) ((W.alloc (.cells ROW 3)).drew.setCells W.heap.size ps [u]).drew _ (heap_lay [u] ps (W.alloc (.cells ROW 3)).drew ROW hrow)
        refine own_row hh hsz2 hG hGm (by rw [layA_size, layA_size]; exact hRs) (by simp; omega) ?_
        rw [layA_list _ _ _ (by rw [layA_size, hdl]; omega), layA_list _ _ _ (by simp; omega), hRt]
        have e1 : (xs.take ps ++ [u] ++ ROW.toList.drop (ps + [u].length)).take (ps + 1) = xs.take ps ++ [u] := by
          rw [List.take_append_of_le_length (by simp; omega)]
          exact List.take_of_length_le (by simp; omega)
        rw [e1]
        exact take_three _ _ _ _ _ (by rw [htl, hdl]; omega)
end

section
open Go.RowKit

theorem rdNum_le : ∀ (l : List UInt8) (bias k w i j : Nat) (r : List UInt8), rdNum l bias k w i = .ok (j, r) → j ≤ 1099511627776
  | [], bias, k, w, i, j, r, h => by cases h
  | b :: l, bias, k, w, i, j, r, h => by
    rw [rdNum] at h
    cases hp : pval b with
    | none => rw [hp] at h; cases h
    | some d =>
      rw [hp] at h
      simp only at h
      split at h
      · cases h
      · split at h
        · injection h with h
          injection h with h1 h2
          omega
        · split at h
          · cases h
          · exact rdNum_le l _ _ _ _ j r h
/-- What is left behind a number. -/
theorem rdNum_rest {D : ByteArray} {bias I j : Nat} {r : List UInt8} (h : rdNum (ls D) bias 0 1 I = .ok (j, r)) : I ≤ j ∧ j ≤ 1099511627776 ∧ r.length < D.size ∧ ls (D.extract (D.size - r.length) D.size) = r := by
  obtain ⟨q, x, e, hx, _, e3⟩ := rdNum_ok _ _ _ _ _ _ _ h
  have hl : D.size = x.length + r.length := by rw [← ls_length, e, List.length_append]
  have := List.length_pos_iff.2 hx
  refine ⟨by omega, rdNum_le _ _ _ _ _ _ _ h, by omega, ?_⟩
  rw [ls_extract, e, show D.size - r.length = x.length by omega, List.drop_left' rfl]
  exact List.take_of_length_le (by omega)
theorem decGo_eq (f : Nat) (l : List UInt8) (S : PSt) (b : Nat) (F : Bool) : decGo (f + 1) l S b F = if l = [] then .ok S.out else match rdNum l b 0 1 S.i with
    | .error e => .error e
    | .ok (j, r) => if ptN (S.val (j - S.i)) = false then .error 2 else if 256 < S.out.length + 1 then .error 3 else decGo f r (S.step (j - S.i)) (adp (j - S.i) (S.out.length + 1) F) false := by
  rw [decGo]
  split
  · rfl
  · cases rdNum l b 0 1 S.i with
    | error e => rfl
    | ok x => rfl
theorem one_ints (p : List Nat) : ∀ u ∈ p.map nvI, u.oneCell' = true := by
  intro u hu
  obtain ⟨n, _, rfl⟩ := List.mem_map.1 hu
  rfl

set_option maxRecDepth 20000 in
set_option maxHeartbeats 8000000 in
/-- The program's Decode. -/
theorem pD12 : PuDec 74 := by
  intro s w hs9
  obtain ⟨i3, hi3, hz0, hz1, hz2⟩ := info_parts infoInt
  by_cases hlen : 1024 < s.size
  · have hd : decide ((1024 : Int) < (s.size : Int)) = true := decide_eq_true (by omega)
    have HE : Hid (decL (ls s) = .error 3) := by show _ = _; unfold decL; rw [if_pos (by rw [ls_length]; exact hlen)]
    go_enter Tryz.func74, Tryz.ntmps74
    go_wp2
    go_ret2
    exact DecPost.err HE.out (Below.refl _ _)
  · have hd1024 : decide ((1024 : Int) < (s.size : Int)) = false := decide_eq_false (by omega)
    have hsz : s.size ≤ 1024 := by omega
    have hdl : decL (ls s) = if (ls s).any (fun b => decide (128 ≤ b.toNat)) = true then .error 4 else if 256 < cutL (ls s) then .error 3
      else decGo ((ls s).length + 1) (restL (ls s)) (PSt.start (((ls s).take (cutL (ls s))).map UInt8.toNat)) 72 true := by
      unfold decL
      rw [if_neg (by rw [ls_length]; exact hlen)]
    have cA := isAscii_any s hs9
    clear hlen hs9
    cases hany : (ls s).any (fun b => decide (128 ≤ b.toNat)) with
    | true =>
      rw [hany] at cA
      have HE : Hid (decL (ls s) = .error 4) := by show _ = _; rw [hdl, hany, if_pos rfl]
      clear hany hdl
      go_enter Tryz.func74, Tryz.ntmps74
      go_wp2_with (go_at_call 85; refine (cA _).mono ?_; rintro e w' ⟨rfl, rfl⟩)
      go_ret2
      exact DecPost.err HE.out (Below.refl _ _)
    | false =>
      rw [hany] at cA
      rw [hany, if_neg (by simp)] at hdl
      have cC := cutB_any s (by omega)
      have hCl : cutL (ls s) ≤ s.size := by
        by_cases h0 : 0 < cutL (ls s)
        · have := cutL_lt (ls s) h0
          rw [ls_length] at this
          omega
        · omega
      obtain ⟨C, hC⟩ : ∃ C, C = cutL (ls s) := ⟨_, rfl⟩
      obtain ⟨T, hT⟩ : ∃ T, T = bs ((ls s).take C) := ⟨_, rfl⟩
      obtain ⟨D0, hD0⟩ : ∃ D0, D0 = bs (restL (ls s)) := ⟨_, rfl⟩
      rw [← hC] at cC hdl hCl
      rw [← hT, ← hD0] at cC
      have hTs : T.size = C := by rw [hT, bs_size, List.length_take, ls_length]; omega
      have hTl : ls T = (ls s).take C := by rw [hT, ls_bs]
      have hD0l : ls D0 = restL (ls s) := by rw [hD0, ls_bs]
      have hD0s : D0.size ≤ 1024 := by
        rw [← ls_length, hD0l]
        unfold restL
        split
        · rw [List.length_drop, ls_length]; omega
        · rw [ls_length]; omega
      rw [← hTl, ← hD0l] at hdl
      have hfl : (ls s).length + 1 = s.size + 1 := by rw [ls_length]
      rw [hfl] at hdl
      have hD0f : D0.size ≤ s.size := by
        rw [← ls_length, hD0l]
        unfold restL
        split
        · rw [List.length_drop, ls_length]; omega
        · rw [ls_length]; exact Nat.le_refl _
      clear hany hC hT hD0 hTl hD0l hfl
      subst hTs
      by_cases h256 : 256 < T.size
      · have hd : decide ((256 : Int) < (T.size : Int)) = true := decide_eq_true (by omega)
        have hdN : decide (256 < T.size) = true := decide_eq_true (by omega)
        have HE : Hid (decL (ls s) = .error 3) := by show _ = _; rw [hdl, if_pos h256]
        clear hdl
        go_enter Tryz.func74, Tryz.ntmps74
        go_wp2_with fail
        refine (cA _).mono ?_
        rintro e w' ⟨rfl, rfl⟩
        go_wp2_with fail
        refine (cC _).mono ?_
        rintro e w' ⟨q, rfl, rfl⟩
        go_wp2
        go_ret2
        exact DecPost.err HE.out ⟨rfl, rfl, rfl, Nat.le_refl _, fun _ _ => rfl⟩
      · have hd : decide ((256 : Int) < (T.size : Int)) = false := decide_eq_false (by omega)
        have hdN : decide (256 < T.size) = false := decide_eq_false (by omega)
        rw [if_neg h256] at hdl
        have HDL := Lib.hid hdl
        clear hdl
        go_enter Tryz.func74, Tryz.ntmps74
        go_wp2_with fail
        refine (cA _).mono ?_
        rintro e w' ⟨rfl, rfl⟩
        go_wp2_with fail
        refine (cC _).mono ?_
        rintro e w' ⟨q, rfl, rfl⟩
        have hbq : Below w.heap.size w (w.drewN q) := ⟨rfl, rfl, rfl, Nat.le_refl _, fun _ _ => rfl⟩
        obtain ⟨wq, hwq⟩ : ∃ wq, wq = w.drewN q := ⟨_, rfl⟩
        rw [← hwq] at hbq ⊢
        clear hwq
        go_wp2_with fail
        go_loopg [6, 31] T.size (fun g v i wr => ∃ k : Nat, k ≤ T.size ∧ g = T.size - k ∧ i = .int .i64 k ∧ wr.ownsRow w.heap.size 3 1 v k ((((ls T).take k).map UInt8.toNat).map nvI) ∧ Below w.heap.size w wr)
        case atStart => exact ⟨0, Nat.zero_le _, rfl, rfl, World.ownsRow_nil _ _ _ _, hbq⟩
        case round =>
          clear hbq
          obtain ⟨k, hk2, hg, rfl, hown, hb⟩ := hrel
          have HG := Lib.hid hg
          clear hg
          by_cases hlt2 : k < T.size
          · have hkd : decide ((k : Int) < (T.size : Int)) = true := decide_eq_true (by omega)
            have hkN : decide (k < T.size) = true := decide_eq_true hlt2
            have htk := take_ls_succ T k hlt2
            have hbl := byte_lt T[k]
            have HTK : Hid ((((ls T).take (k + 1)).map UInt8.toNat).map nvI = (((ls T).take k).map UInt8.toNat).map nvI ++ [.int .i64 (T[k].toNat : Int)]) := by
              show _ = _
              rw [htk]
              simp
            clear htk
            go_wp2_with (at_builtin; refine wpList_app_one wr rfl _ _ 65 rfl w.heap.size 3 i3 (.int .i64 0) 8 tyInts hi3 hz0 hz1 hz2 rfl _ (by exact rfl) _ _ _ (by exact rfl) hown (by exact rfl) (by unfold maxLen; omega) (by omega) hb (Nat.le_refl _) ?_; intro v' w' hown' hb' _)
            go_roundg (T.size - (k + 1))
            case rel =>
              refine ⟨k + 1, by omega, rfl, by go_num, ?_, hb'⟩
              rw [HTK.out]
              exact hown'
            case measure => rw [HG.out]; omega
          · obtain rfl : k = T.size := by omega
            have hkd : decide ((T.size : Int) < (T.size : Int)) = false := by simp
            have hLk : ((ls T).map UInt8.toNat).length = T.size := by rw [List.length_map, ls_length]
            have HLK := Lib.hid hLk
            rw [take_ls_all] at hown
            clear hLk
            obtain ⟨n0, hn0⟩ : ∃ n0, n0 = T.size := ⟨_, rfl⟩
            rw [← hn0] at hown
            have HN0 := Lib.hid hn0
            have hn0b : n0 ≤ 256 := by omega
            clear hn0
            go_wp2_with fail
            go_loopg [5, 6, 8, 9, 10] D0.size (fun g dv v nn ii bi wr => ∃ (D : ByteArray) (S : PSt) (N I b L : Nat) (F : Bool), g = D.size ∧ dv = .string D ∧ nn = .int .i64 N ∧ ii = .int .i64 I ∧ bi = .int .i64 b ∧ D.size ≤ 1024 ∧ L ≤ 256 ∧ N ≤ 1114111 ∧ I ≤ 257 ∧ b ≤ 1000 ∧ Hid (S.out.length = L ∧ S.n = N ∧ S.i = I) ∧ Hid (((I : Int) == 0) = F ∧ (I == 0) = F) ∧
              Hid (∃ f, D.size < f ∧ decL (ls s) = decGo f (ls D) S b F) ∧ wr.ownsRow w.heap.size 3 1 v L (S.out.map nvI) ∧ Below w.heap.size w wr)
            case atStart => exact ⟨D0, PSt.start ((ls T).map UInt8.toNat), 128, 0, 72, n0, true, rfl, rfl, rfl, rfl, rfl, hD0s, hn0b, by omega, by omega, by omega, Lib.hid ⟨HLK.out.trans HN0.out.symm, rfl, rfl⟩, Lib.hid ⟨rfl, rfl⟩, Lib.hid ⟨s.size + 1, by omega, HDL.out⟩, hown, hb⟩
            case round =>
              clear hown hb
              obtain ⟨D, S, N, I, b, L, F, hg3, rfl, rfl, rfl, rfl, hDs, hL, hN, hI, hbb, HS, HF0, HF, hown, hb⟩ := hrel
              have HG3 := Lib.hid hg3
              clear hg3
              obtain ⟨A6, c6, rfl, _, _⟩ := Has.of_own hown
              by_cases hD0 : D.size = 0
              · have hE : ls D = [] := List.eq_nil_of_length_eq_zero (by rw [ls_length]; exact hD0)
                have hem : D.toList.isEmpty = true := by rw [toList_ls, hE]; rfl
                have HE : Hid (decL (ls s) = .ok S.out) := by
                  show _ = _
                  obtain ⟨f, hf, he⟩ := HF.out
                  cases f with
                  | zero => omega
                  | succ f => rw [he, decGo_eq, hE, if_pos rfl]
                clear hE hD0
                go_wp2
                go_ret2
                refine DecPost.ok HE.out ?_ hb
                rw [HS.out.1]
                exact hown
              · have hE : ls D ≠ [] := by
                  intro h0
                  rw [← ls_length, h0] at hD0
                  exact hD0 rfl
                have hem : D.toList.isEmpty = false := by
                  rw [toList_ls]
                  cases hx : ls D with
                  | nil => exact absurd hx hE
                  | cons a r => rfl
                have hF2 : ∃ f, D.size ≤ f ∧ decL (ls s) = match rdNum (ls D) b 0 1 I with
                    | .error e => .error e
                    | .ok (j, r) => if ptN (S.val (j - I)) = false then .error 2 else if 256 < L + 1 then .error 3 else decGo f r (S.step (j - I)) (adp (j - I) (L + 1) F) false := by
                  obtain ⟨f, hf, he⟩ := HF.out
                  cases f with
                  | zero => omega
                  | succ f =>
                    refine ⟨f, by omega, ?_⟩
                    rw [he, decGo_eq, if_neg hE, HS.out.1, HS.out.2.2]
                obtain ⟨f, hf, hfin⟩ := hF2
                have cT := thr_make b (by omega) wr
                have hbr : ∀ wt, Below wr.heap.size wr wt → wr.heap.size ≤ wt.heap.size := fun wt h => h.size
                have HBR := Lib.hid hbr
                clear hbr HF hE hD0
                cases hrd : rdNum (ls D) b 0 1 I with
                | error c =>
                  rw [hrd] at hfin
                  have hc0 := rdNum_err _ _ _ _ _ _ hrd
                  have hcz : ((c : Int) != 0) = true := by rw [bne_iff_ne]; omega
                  have hczN : (c != 0) = true := by rw [bne_iff_ne]; omega
                  obtain ⟨e1, e2, e3⟩ := add_err (n := D.size) hrd
                  have cN := fun (wt : World) (bk bb : Nat) hc => addN_any wr.heap.size wt D I b bk bb hc
                  rw [e1, e2, e3] at cN
                  have HE := Lib.hid hfin
                  have HCN := Lib.hid cN
                  clear hfin hrd hc0 e1 e2 e3 cN
                  go_wp2_with fail
                  refine cT.mono ?_
                  rintro e wt ⟨⟨bk, bb, rfl, hclo⟩, hbt⟩
                  have HCLO := Lib.hid hclo
                  clear hclo
                  go_wp2_with fail
                  refine (HCN.out wt bk bb HCLO.out hbt.size (by omega) hbb (by omega)).mono ?_
                  rintro e w1 ⟨rfl, hb1⟩
                  have hb2 := hb.trans ((hbt.trans hb1).mono hb.size)
                  clear hb1 hbt hb hown
                  go_wp2
                  go_ret2
                  exact DecPost.err HE.out hb2
                | ok x =>
                  obtain ⟨j, r⟩ := x
                  rw [hrd] at hfin
                  obtain ⟨hIj, hj40, hrl, hrx⟩ := rdNum_rest hrd
                  obtain ⟨e1, e2, e3⟩ := add_ok (n := D.size) hrd
                  obtain ⟨sz, hszd⟩ : ∃ sz, sz = D.size - r.length := ⟨_, rfl⟩
                  rw [← hszd] at e3 hrx
                  have hsz1 : sz ≤ D.size := by omega
                  have hsz0 : 1 ≤ sz := by omega
                  obtain ⟨D2, hD2⟩ : ∃ D2, D2 = D.extract sz D.size := ⟨_, rfl⟩
                  rw [← hD2] at hrx
                  have hD2s : D2.size = D.size - sz := by rw [hD2, ByteArray.size_extract]; omega
                  have cN := fun (wt : World) (bk bb : Nat) hc => addN_any wr.heap.size wt D I b bk bb hc
                  rw [e1, e2, e3] at cN
                  have HCN := Lib.hid cN
                  have HD2 := Lib.hid hD2
                  have hD2b : D2.size ≤ 1024 := by omega
                  have hD2f : D2.size < f := by omega
                  have HG2 : Hid (D2.size < D.size) := Lib.hid (by omega)
                  simp only at hfin
                  rw [← hrx] at hfin
                  clear hrd e1 e2 e3 cN hrl hrx hszd hD2 hD2s hf
                  have hval : S.val (j - I) = N + j / (L + 1) := by
                    unfold PSt.val
                    rw [HS.out.1, HS.out.2.1, HS.out.2.2, show I + (j - I) = j by omega]
                  have hpos : S.pos (j - I) = j % (L + 1) := by
                    unfold PSt.pos
                    rw [HS.out.1, HS.out.2.2, show I + (j - I) = j by omega]
                  obtain ⟨dv, hdv⟩ : ∃ dv, dv = j / (L + 1) := ⟨_, rfl⟩
                  obtain ⟨ps, hps⟩ : ∃ ps, ps = j % (L + 1) := ⟨_, rfl⟩
                  have hdvb : dv ≤ j := by rw [hdv]; exact Nat.div_le_self _ _
                  have hpsb : ps ≤ L := by rw [hps]; have := Nat.mod_lt j (show 0 < L + 1 by omega); omega
                  have hdvi : Int.tdiv (j : Int) ((L : Int) + 1) = (dv : Int) := by
                    rw [Int.tdiv_eq_ediv_of_nonneg (by omega), hdv, show ((L : Int) + 1) = ((L + 1 : Nat) : Int) by omega]
                    exact (Int.natCast_ediv _ _).symm
                  have hpsi : Int.tmod (j : Int) ((L : Int) + 1) = (ps : Int) := by
                    rw [Int.tmod_eq_emod_of_nonneg (by omega), hps, show ((L : Int) + 1) = ((L + 1 : Nat) : Int) by omega]
                    exact (Int.natCast_emod _ _).symm
                  have hne0 : ¬ ((L : Int) + 1 = 0) := by omega
                  rw [← hdv] at hval
                  rw [← hps] at hpos
                  obtain ⟨n2, hn2⟩ : ∃ n2, n2 = N + dv := ⟨_, rfl⟩
                  rw [← hn2] at hval
                  have hn2i : (N : Int) + (dv : Int) = (n2 : Int) := by omega
                  have cA2 := adp_any (j - I) (L + 1) F (by omega) (by omega) (by omega)
                  rw [show ((j - I : Nat) : Int) = (j : Int) - (I : Int) by omega, show ((L + 1 : Nat) : Int) = (L : Int) + 1 by omega] at cA2
                  have hb2 : adp (j - I) (L + 1) F ≤ 1000 := adp_le _ _ _ (by omega)
                  obtain ⟨b2, hb2e⟩ : ∃ b2, b2 = adp (j - I) (L + 1) F := ⟨_, rfl⟩
                  rw [← hb2e] at cA2 hb2 hfin
                  rw [hval] at hfin
                  have cP := isPt_any (n2 : Int)
                  rw [ptZ_nat] at cP
                  have HSTEP : Hid ((S.step (j - I)).out = S.out.take ps ++ n2 :: S.out.drop ps ∧ (S.step (j - I)).n = n2 ∧ (S.step (j - I)).i = ps + 1) := by
                    refine Lib.hid ⟨?_, hval, ?_⟩
                    · show S.out.take (S.pos _) ++ S.val _ :: S.out.drop (S.pos _) = _
                      rw [hval, hpos]
                    · show S.pos _ + 1 = _
                      rw [hpos]
                  have hfi := HF0.out.1
                  have hfiN := HF0.out.2
                  have HFIN := Lib.hid hfin
                  have hi1 : (0 : Int) ≤ (sz : Int) := by omega
                  have hi2 : (sz : Int) ≤ (D.size : Int) := by omega
                  clear hval hpos hdv hps hn2 hb2e hfin HDL
                  cases hpt : ptN n2 with
                  | false =>
                    rw [hpt] at cP
                    have HE : Hid (decL (ls s) = .error 2) := by show _ = _; rw [HFIN.out, if_pos hpt]
                    clear hpt HFIN
                    go_wp2_with fail
                    refine cT.mono ?_
                    rintro e wt ⟨⟨bk, bb, rfl, hclo⟩, hbt⟩
                    have HCLO := Lib.hid hclo
                    clear hclo
                    go_wp2_with fail
                    refine (HCN.out wt bk bb HCLO.out hbt.size (by omega) hbb (by omega)).mono ?_
                    rintro e w1 ⟨rfl, hb1⟩
                    have hb3 := hb.trans ((hbt.trans hb1).mono hb.size)
                    clear hb1 hbt hb hown
                    go_wp2_with (first
                      | (go_at_call 89; refine (cA2 _).mono ?_; rintro e w' ⟨rfl, rfl⟩)
                      | (go_at_call 90; refine (cP _).mono ?_; rintro e w' ⟨rfl, rfl⟩))
                    go_ret2
                    exact DecPost.err HE.out hb3
                  | true =>
                    rw [hpt] at cP
                    have hn2b := ptN_le hpt
                    have HFQ : Hid (decL (ls s) = if 256 < L + 1 then .error 3 else decGo f (ls D2) (S.step (j - I)) b2 false) := by show _ = _; rw [HFIN.out, if_neg (by rw [hpt]; simp)]
                    clear hpt HFIN
                    by_cases h257 : 256 < L + 1
                    · have hld2 : decide ((256 : Int) < (L : Int) + 1) = true := decide_eq_true (by omega)
                      have hldN : decide (256 < L + 1) = true := decide_eq_true h257
                      have HE : Hid (decL (ls s) = .error 3) := by show _ = _; rw [HFQ.out, if_pos h257]
                      go_wp2_with fail
                      refine cT.mono ?_
                      rintro e wt ⟨⟨bk, bb, rfl, hclo⟩, hbt⟩
                      have HCLO := Lib.hid hclo
                      clear hclo
                      go_wp2_with fail
                      refine (HCN.out wt bk bb HCLO.out hbt.size (by omega) hbb (by omega)).mono ?_
                      rintro e w1 ⟨rfl, hb1⟩
                      have hb3 := hb.trans ((hbt.trans hb1).mono hb.size)
                      clear hb1 hbt hb hown
                      go_wp2_with (first
                        | (go_at_call 89; refine (cA2 _).mono ?_; rintro e w' ⟨rfl, rfl⟩)
                        | (go_at_call 90; refine (cP _).mono ?_; rintro e w' ⟨rfl, rfl⟩))
                      go_ret2
                      exact DecPost.err HE.out hb3
                    · have hld2 : decide ((256 : Int) < (L : Int) + 1) = false := decide_eq_false (by omega)
                      have hldN : decide (256 < L + 1) = false := decide_eq_false h257
                      have HF2 : Hid (∃ f, D2.size < f ∧ decL (ls s) = decGo f (ls D2) (S.step (j - I)) b2 false) := Lib.hid ⟨f, hD2f, by rw [HFQ.out, if_neg h257]⟩
                      have HS2 : Hid ((S.step (j - I)).out.length = L + 1 ∧ (S.step (j - I)).n = n2 ∧ (S.step (j - I)).i = ps + 1) := Lib.hid ⟨by rw [PSt.step_len, HS.out.1], HSTEP.out.2.1, HSTEP.out.2.2⟩
                      have HOUT : Hid ((S.step (j - I)).out.map nvI = (S.out.map nvI).take ps ++ .int .i64 (n2 : Int) :: (S.out.map nvI).drop ps) := by
                        show _ = _
                        rw [HSTEP.out.1, List.map_append, List.map_cons, List.map_take, List.map_drop]
                      clear HFQ
                      go_wp2_with fail
                      refine cT.mono ?_
                      rintro e wt ⟨⟨bk, bb, rfl, hclo⟩, hbt⟩
                      have HCLO := Lib.hid hclo
                      clear hclo
                      go_wp2_with fail
                      refine (HCN.out wt bk bb HCLO.out hbt.size (by omega) hbb (by omega)).mono ?_
                      rintro e w1 ⟨rfl, hb1⟩
                      have hb3 := hb.trans ((hbt.trans hb1).mono hb.size)
                      have hown1 := own_below hown (hbt.trans (hb1))
                      clear hb1 hbt hb hown
                      go_wp2_with (first
                        | (go_at_call 89; refine (cA2 _).mono ?_; rintro e w' ⟨rfl, rfl⟩)
                        | (go_at_call 90; refine (cP _).mono ?_; rintro e w' ⟨rfl, rfl⟩))
                      refine (ins_any w.heap.size w w1 _ L ps _ (.int .i64 (n2 : Int)) hown1 hb3 (Nat.le_refl _) hpsb (by omega) rfl (one_ints _)).mono ?_
                      rintro e wa ⟨⟨va, rfl, howna⟩, hba⟩
                      rw [← HOUT.out] at howna
                      clear hown1 hb3
                      rw [← HD2.out]
                      go_wp2
                      go_roundg D2.size
                      case rel =>
                        refine ⟨D2, S.step (j - I), n2, ps + 1, b2, L + 1, false, rfl, rfl, rfl, by go_num, rfl, hD2b, by omega, hn2b, by omega, hb2, HS2, Lib.hid ⟨?_, by simp⟩, HF2, howna, hba⟩
                        rw [beq_eq_false_iff_ne]
                        omega
                      case measure => rw [HG3.out]; exact HG2.out
end

end Go.Proofs.YthoolifdmemceaaGreatDoor
