/-
Contracts of isASCII, cutBasic and smallestFrom of package punycode.
slices.Insert of one number into a slice of numbers of one's own.
Contract of package punycode's Decode.
Contract of package punycode's Encode, of any numbers.
-/
import Derived.Test.YtpccpgihldpiiaaGreatDoorD02
import Derived.Test.YtpccpgihldpiiaaGreatDoorShelf
import Derived.Lib.LastIndexByte
import Derived.BigQuiet
import Derived.Test.YtpccpgihldpiiaaGreatDoorC07
import Derived.Test.YtpccpgihldpiiaaGreatDoorC16
import Derived.Test.YtpccpgihldpiiaaGreatDoorShelfI
import Derived.Laws.IdiomCopy
import Derived.Test.YtpccpgihldpiiaaGreatDoorD05
import Derived.Deep.LoopGhost
import Derived.Deep.CutRange
import Derived.Deep.CutBlock
namespace Go.Proofs.YtpccpgihldpiiaaGreatDoor
section
open Go.RowKit

theorem isAscii_any (s : ByteArray) (hs : s.size ≤ 1000000000) (w : World) :
    Calls Tryz.prog 203 #[.string s] w fun e w' => e = .returned (.bool (!(ls s).any (fun b => decide (128 ≤ b.toNat)))) ∧ w = w' := by
  obtain ⟨R, hR⟩ : ∃ R, R = (ls s).any (fun b => decide (128 ≤ b.toNat)) := ⟨_, rfl⟩
  rw [← hR]
  have HR := Lib.hid hR
  clear hR
  go_enter Tryz.func203, Tryz.ntmps203
  go_wp2
  go_loop [6] (fun i => ∃ k : Nat, k ≤ s.size ∧ i = .int .i64 k ∧ Hid (R = ((ls s).drop k).any (fun b => decide (128 ≤ b.toNat)))) (fun i => s.size - (intOf i).toNat)
  case atStart => exact ⟨0, Nat.zero_le _, rfl, HR⟩
  case round =>
    obtain ⟨k, hk, rfl, HK⟩ := hrel
    by_cases hlt : k < s.size
    · have hdr := drop_ls_cons s k hlt
      have hlt2 : decide ((k : Int) < (s.size : Int)) = true := decide_eq_true (by omega)
      by_cases h128 : 128 ≤ s[k].toNat
      · have hd : decide ((128 : Int) ≤ (s[k].toNat : Int)) = true := decide_eq_true (by omega)
        have hdN : decide (128 ≤ s[k].toNat) = true := decide_eq_true h128
        have HE : Hid ((!R) = false) := by
          show _ = _
          rw [HK.out, hdr, List.any_cons, hdN, Bool.true_or]
          rfl
        clear hdr
        go_wp2
        go_ret
        exact ⟨ret_bool HE.out.symm, rfl⟩
      · have hd : decide ((128 : Int) ≤ (s[k].toNat : Int)) = false := decide_eq_false (by omega)
        have hdN : decide (128 ≤ s[k].toNat) = false := decide_eq_false h128
        have HK2 : Hid (R = ((ls s).drop (k + 1)).any (fun b => decide (128 ≤ b.toNat))) := by
          show _ = _
          rw [HK.out, hdr, List.any_cons, hdN, Bool.false_or]
        clear hdr
        go_wp2
        go_round
        case rel => exact ⟨k + 1, by omega, by go_num, HK2⟩
        case measure => simp [intOf]; omega
    · obtain rfl : k = s.size := by omega
      have hlt2 : decide ((s.size : Int) < (s.size : Int)) = false := by simp
      have HE : Hid ((!R) = true) := by
        show _ = _
        rw [HK.out, drop_ls_all]
        rfl
      go_wp2
      go_ret
      exact ⟨ret_bool HE.out.symm, rfl⟩

theorem cut_at (t : List UInt8) (i : Nat) (hi : i < t.length) (h : t[i] = 45) (hn : ∀ b ∈ t.drop (i + 1), b ≠ 45) : cutL t = i := by
  have e : t = t.take i ++ 45 :: t.drop (i + 1) := by
    rw [← h, List.getElem_cons_drop, List.take_append_drop]
  unfold cutL
  rw [e, cutGo_append, cutGo, if_pos rfl, cutGo_no _ _ _ hn, List.length_take, Nat.zero_add]
  omega
theorem last_cutL (s : ByteArray) : (Lib.lastIndexByte s 45 = -1 ∧ cutL (ls s) = 0) ∨ (Lib.lastIndexByte s 45 = (cutL (ls s) : Int) ∧ cutL (ls s) < s.size) := by
  have hg : ∀ j (hj : j < s.size), ((s.data[j]!).toNat : Int) = 45 ↔ (ls s)[j]'(by rw [ls_length]; exact hj) = 45 := by
    intro j hj
    have hj' : j < s.data.size := hj
    have e : s.data[j]! = (ls s)[j]'(by rw [ls_length]; exact hj) := by
      rw [getElem!_pos s.data j hj']
      rfl
    rw [e]
    constructor
    · intro h
      exact UInt8.toNat_inj.1 (by rw [show (45 : UInt8).toNat = 45 from rfl]; omega)
    · intro h
      rw [h]
      rfl
  rcases Lib.lastIndexByte_spec s 45 with ⟨e, hn⟩ | ⟨i, hi, e, hc, hn⟩
  · refine .inl ⟨e, ?_⟩
    unfold cutL
    refine cutGo_no _ _ _ ?_
    intro c hc h46
    obtain ⟨j, hj, rfl⟩ := List.getElem_of_mem hc
    rw [ls_length] at hj
    exact hn j hj ((hg j hj).2 h46)
  · have hcut : cutL (ls s) = i := by
      refine cut_at _ i (by rw [ls_length]; exact hi) ((hg i hi).1 hc) ?_
      intro c hc h46
      obtain ⟨j, hj, rfl⟩ := List.getElem_of_mem hc
      rw [List.length_drop, ls_length] at hj
      rw [List.getElem_drop] at h46
      exact hn (i + 1 + j) (by omega) (by omega) ((hg _ (by omega)).2 h46)
    exact .inr ⟨by rw [hcut]; exact e, by rw [hcut]; exact hi⟩

theorem cutB_any (s : ByteArray) (hs : s.size ≤ 1000000000) (w : World) :
    Calls Tryz.prog 204 #[.string s] w fun e w' => (∃ k : Nat, e = .returned (.tuple #[.string (bs ((ls s).take (cutL (ls s)))), .string (bs (restL (ls s)))]) ∧ w' = w.drewN k) := by
  have c1 := fun W => Any.strings_LastIndexByte Tryz.lays149 s 45 (by omega) W
  obtain ⟨x, hx⟩ : ∃ x, x = Lib.lastIndexByte s 45 := ⟨_, rfl⟩
  have hcut := last_cutL s
  rw [← hx] at c1 hcut
  by_cases h0 : 0 < x
  · rcases hcut with ⟨h1, _⟩ | ⟨h1, h2⟩
    · omega
    · obtain ⟨C, hC⟩ : ∃ C, C = cutL (ls s) := ⟨_, rfl⟩
      rw [← hC] at h1 h2 ⊢
      subst h1
      have hr : restL (ls s) = (ls s).drop (C + 1) := by unfold restL; rw [← hC, if_pos (by omega)]
      rw [hr]
      have e1 : Hid (bs ((ls s).take C) = s.extract 0 C) := by
        show _ = _
        refine ls_inj ?_
        rw [ls_bs, ls_extract, List.drop_zero, Nat.sub_zero]
      have e2 : Hid (bs ((ls s).drop (C + 1)) = s.extract (C + 1) s.size) := by
        show _ = _
        refine ls_inj ?_
        rw [ls_bs, ls_extract]
        exact (List.take_of_length_le (by rw [List.length_drop, ls_length]; exact Nat.le_refl _)).symm
      have hd : decide ((0 : Int) < (C : Int)) = true := decide_eq_true (by omega)
      have hdN : decide (0 < C) = true := decide_eq_true (by omega)
      have hi0 : (0 : Int) ≤ (C : Int) := by omega
      have hi1 : (C : Int) ≤ (s.size : Int) := by omega
      have hi2 : (C : Int) + 1 ≤ (s.size : Int) := by omega
      rw [e1.out, e2.out]
      clear hx hC hr
      go_enter Tryz.func204, Tryz.ntmps204
      go_wp2_with fail
      refine (c1 _).mono ?_
      rintro e w' ⟨rfl, rfl⟩
      go_wp2_with fail
      go_quiet (fail)
      go_wp2
      go_ret2
      exact ⟨_, rfl, rfl⟩
  · have hC : cutL (ls s) = 0 := by
      rcases hcut with ⟨_, h2⟩ | ⟨h1, _⟩
      · exact h2
      · omega
    have hr : restL (ls s) = ls s := by unfold restL; rw [if_neg (by omega)]
    rw [hr, hC, List.take_zero, bs_ls]
    have hd : decide ((0 : Int) < x) = false := decide_eq_false h0
    clear hx hC hr hcut
    go_enter Tryz.func204, Tryz.ntmps204
    go_wp2_with fail
    refine (c1 _).mono ?_
    rintro e w' ⟨rfl, rfl⟩
    go_wp2_with fail
    go_ret2
    exact ⟨0, rfl, rfl⟩

/-- The least code point from n on, of whatever there is. -/
theorem small_any (n0 : Nat) (_hn : n0 ≤ 1114112) (P : List Nat) (hP : ∀ p ∈ P, ptN p = true) (hl : P.length ≤ 256) (A : Option Addr) (cap B : Nat) (w wr : World) (hA : Has w B A P.length (P.map iv)) (hb : Below w.heap.size w wr) (hB : B ≤ w.heap.size) :
    Calls Tryz.prog 163 #[.int .i64 (n0 : Int), .slice A P.length cap] wr fun e w' => e = .returned (.int .i64 (min 1114111 (leastG n0 P) : Nat)) ∧ wr = w' := by
  obtain ⟨R, hR⟩ : ∃ R, R = min 1114111 (leastG n0 P) := ⟨_, rfl⟩
  rw [← hR]
  have HR := Lib.hid hR
  have HP := Lib.hid hP
  have H := Lib.hid hA
  clear hR hP hA
  go_enter Tryz.func163, Tryz.ntmps163
  go_wp2
  go_loop [5, 10] (fun l i => ∃ (k v : Nat), k ≤ P.length ∧ i = .int .i64 k ∧ l = .int .i64 v ∧ v ≤ 1114111 ∧ Hid (min v (leastG n0 (P.drop k)) = R)) (fun _ i => P.length - (intOf i).toNat)
  case atStart => exact ⟨0, 1114111, Nat.zero_le _, rfl, rfl, Nat.le_refl _, Lib.hid HR.out.symm⟩
  case round =>
    obtain ⟨k, v, hk, rfl, rfl, hv, HV⟩ := hrel
    by_cases hlt2 : k < P.length
    · obtain ⟨b1, o1, rfl, l1, d1⟩ := H.out.2 (by omega)
      have g1 := cell_iv H.out hb hB k hlt2 hlt2
      have hple : P[k] ≤ 1114111 := ptN_le (HP.out _ (List.getElem_mem hlt2))
      have hdr : P.drop k = P[k] :: P.drop (k + 1) := List.drop_eq_getElem_cons hlt2
      obtain ⟨p, hp⟩ : ∃ p, p = P[k] := ⟨_, rfl⟩
      rw [← hp] at g1 hple hdr
      have hkd : decide ((k : Int) < (P.length : Int)) = true := decide_eq_true (by omega)
      clear d1 hp
      by_cases hge : n0 ≤ p
      · have hgd : decide ((n0 : Int) ≤ (p : Int)) = true := decide_eq_true (by omega)
        have hgN : decide (n0 ≤ p) = true := decide_eq_true hge
        obtain ⟨v2, hv2⟩ : ∃ v2 : Nat, v2 = min v p := ⟨_, rfl⟩
        have hmi : min (v : Int) (p : Int) = (v2 : Int) := by rw [hv2]; omega
        have hmin : ∀ (W : World) ts ty, (Builtin.min_ ts ty #[.int .i64 (v : Int), .int .i64 (p : Int)]).run Tryz.prog W = .ok (.int .i64 (v2 : Int)) W := fun W ts ty => min_two W ts ty _ _ _ hmi
        have HV2 : Hid (min v2 (leastG n0 (P.drop (k + 1))) = R) := by
          show _ = _
          have := HV.out
          rw [hdr, leastG, if_pos hge] at this
          rw [hv2, Nat.min_assoc]
          exact this
        have hv2b : v2 ≤ 1114111 := by rw [hv2]; exact Nat.le_trans (Nat.min_le_left _ _) hv
        clear hmi hv2 hdr hge
        go_wp2
        go_round
        case rel => exact ⟨k + 1, v2, by omega, by go_num, rfl, hv2b, HV2⟩
        case measure => simp [intOf]; omega
      · have hgd : decide ((n0 : Int) ≤ (p : Int)) = false := decide_eq_false (by omega)
        have hgN : decide (n0 ≤ p) = false := decide_eq_false hge
        have HV2 : Hid (min v (leastG n0 (P.drop (k + 1))) = R) := by
          show _ = _
          have := HV.out
          rw [hdr, leastG, if_neg hge] at this
          exact this
        clear hdr
        go_wp2
        go_round
        case rel => exact ⟨k + 1, v, by omega, by go_num, rfl, hv, HV2⟩
        case measure => simp [intOf]; omega
    · obtain rfl : k = P.length := by omega
      have hvm : Hid ((v : Int) = (R : Int)) := by
        show _ = _
        have := HV.out
        rw [List.drop_length, leastG, Nat.min_eq_left (by omega)] at this
        rw [this]
      have hkd : decide ((P.length : Int) < (P.length : Int)) = false := by simp
      go_wp2
      go_ret
      exact ⟨ret_int hvm.out, rfl⟩
end

section
open Go.RowKit

/-- A row with values laid over it. -/
def layA : Array Value → Nat → List Value → Array Value
  | cur, _, [] => cur
  | cur, o, v :: r => layA (cur.setIfInBounds o v) (o + 1) r
theorem layA_size : ∀ (vs : List Value) (cur : Array Value) (o : Nat), (layA cur o vs).size = cur.size
  | [], _, _ => rfl
  | v :: r, cur, o => by rw [layA, layA_size r]; simp
theorem layA_list : ∀ (vs : List Value) (cur : Array Value) (o : Nat), o + vs.length ≤ cur.size → (layA cur o vs).toList = cur.toList.take o ++ vs ++ cur.toList.drop (o + vs.length)
  | [], cur, o, _ => by simp [layA]
  | v :: r, cur, o, h => by
    have h' : o + (r.length + 1) ≤ cur.size := by simpa using h
    have hl : o < cur.toList.length := by simp; omega
    rw [layA, layA_list r _ _ (by simp; omega), Array.toList_setIfInBounds]
    have e1 : (cur.toList.set o v).take (o + 1) = cur.toList.take o ++ [v] := by
      rw [List.take_succ_eq_append_getElem (by rw [List.length_set]; exact hl), List.getElem_set_self, List.take_set_of_le (Nat.le_refl _)]
    have e2 : (cur.toList.set o v).drop (o + 1 + r.length) = cur.toList.drop (o + (r.length + 1)) := by
      rw [List.drop_set_of_lt (by omega), show o + 1 + r.length = o + (r.length + 1) by omega]
    rw [e1, e2, List.length_cons]
    simp
theorem heap_lay {g : Nat} {t : TypeId} : ∀ (vs : List Value) (o : Nat) (w : World) (cur : Array Value), w.heap[g]? = some (.cells cur t (0, 0)) → (w.setCells g o vs).heap[g]? = some (.cells (layA cur o vs) t (0, 0))
  | [], _, _, _, h => h
  | v :: r, o, w, cur, h => by
    rw [World.setCells, layA]
    exact heap_lay r (o + 1) _ _ (heap_setCell_same w g o cur t v h)
theorem lay_below {B g : Nat} {a : World} (hg : B ≤ g) : ∀ (vs : List Value) (o : Nat) (w : World), Below B a w → Below B a (w.setCells g o vs)
  | [], _, _, h => h
  | v :: r, o, w, h => by
    rw [World.setCells]
    exact lay_below hg r (o + 1) _ (h.setCell hg v)
theorem own_row {w : World} {base g cap n : Nat} {t : TypeId} {cur : Array Value} {xs : List Value} (h : w.heap[g]? = some (.cells cur t (0, 0))) (hb : base ≤ g) (hn : n ≤ cap) (hc : cap ≤ maxLen) (hs : cur.size = cap) (hx : xs.length = n) (ht : cur.toList.take n = xs) :
    w.ownsRow base t 1 (.slice (some ⟨g, 0, none⟩) n cap) n xs := ⟨by omega, .inr ⟨g, cap, cur, rfl, hb, h, hn, hc, by omega, by rw [Nat.mul_one]; exact ht⟩⟩
theorem take_three (A C D : List Value) (u : Value) (n : Nat) (h : A.length + 1 + C.length = n) : (A ++ [u] ++ C ++ D).take n = A ++ u :: C := by
  rw [List.take_append, List.take_of_length_le (by simp; omega), show n - (A ++ [u] ++ C).length = 0 by simp; omega, List.take_zero, List.append_nil]
  simp

set_option maxRecDepth 20000 in
/-- slices.Insert of one number. -/
theorem ins_any (base : Nat) (w0 wr : World) (v : Value) (L ps : Nat) (xs : List Value) (u : Value) (hown : wr.ownsRow base 3 1 v L xs) (hb : Below base w0 wr) (hB : base ≤ w0.heap.size) (hps : ps ≤ L) (hL : L ≤ 1000000) (hu : u.oneCell' = true) (h1 : ∀ x ∈ xs, x.oneCell' = true) :
    Calls Tryz.prog 206 #[v, .int .i64 (ps : Int), .slice (some ⟨wr.heap.size, 0, none⟩) 1 1] (wr.alloc (.cells #[u] 3)) fun e w' => (∃ v', e = .returned v' ∧ w'.ownsRow base 3 1 v' (L + 1) (xs.take ps ++ u :: xs.drop ps)) ∧ Below base w0 w' := by
  have hbase : base ≤ wr.heap.size := Nat.le_trans hB hb.size
  obtain ⟨W, hW⟩ : ∃ W, W = wr.alloc (.cells #[u] 3) := ⟨_, rfl⟩
  have hownW : W.ownsRow base 3 1 v L xs := by rw [hW]; exact hown.alloc _
  have hbW : Below base w0 W := by rw [hW]; exact hb.alloc hbase _
  have hWs : W.heap.size = wr.heap.size + 1 := by rw [hW]; show (wr.heap.push _).size = _; simp
  have hvc : W.heap[wr.heap.size]? = some (.cells #[u] 3 (0, 0)) := by rw [hW]; exact heap_alloc_new wr _
  have hvs : ∀ j x, [u][j]? = some x → W.cell? ⟨wr.heap.size, 0 + j, none⟩ = some x := by
    intro j x hj
    match j, hj with
    | 0, hj =>
      simp at hj
      subst hj
      exact cell_of_one hvc
  have h1v : ∀ x ∈ [u], x.oneCell' = true := by intro x hx; simp at hx; subst hx; exact hu
  have hxl : xs.length = L := by have := hownW.1; omega
  have hren : Tryz.laysIns_ren.t 3 = 3 := rfl
  have hlt := hown.lt
  rw [← hW]
  rcases hownW.2 with ⟨rfl, h0⟩ | ⟨g, cap, cur, rfl, hg, hr, hnc, hcm, hsz, htk⟩
  · subst h0
    obtain rfl : ps = 0 := by omega
    obtain rfl : xs = [] := List.eq_nil_of_length_eq_zero hxl
    refine (Any2.slices_Insert_int_end_grow Tryz.laysIns none 0 0 wr.heap.size 0 1 1 [] [u] W (by omega) (by omega) (by omega) (by omega) rfl rfl (fun _ => rfl) (fun a e => by cases e) hvs h1v).mono ?_
    rintro e w' ⟨rfl, rfl⟩
    rw [hren]
    refine ⟨⟨_, rfl, ?_⟩, ?_⟩
    · refine own_row (cur := _) (heap_alloc_new W.drew _) (by show base ≤ W.heap.size; omega) (grownCap_ge _ _ _ _) (grownCap_le_maxLen _ _ _ _ (by unfold maxLen; omega)) ?_ rfl ?_
      · have := grownCap_ge W 1 0 3
        simp [Builtin.zeroCells, Value.cells]
        omega
      · simp
    · exact (hbW.drew).alloc (by show base ≤ W.heap.size; omega) _
  · have hgne : wr.heap.size ≠ g := by
      have := (hlt g rfl).2
      omega
    have hcs : ∀ j x, xs[j]? = some x → W.cell? ⟨g, 0 + j, none⟩ = some x := by
      intro j x hj
      have := hownW.cells (g := g) rfl j x hj
      have hadd : (⟨g, 0, none⟩ : Addr).add j = ⟨g, j, none⟩ := by unfold Addr.add; split <;> simp_all
      rw [hadd] at this
      rw [Nat.zero_add]
      exact this
    have hcell : ∀ j, W.cell? ⟨g, j, none⟩ = cur[j]? := fun j => cell_of_row W g j cur _ (0, 0) hr
    have hszc : cur.size = cap := by omega
    have hsp : ∀ j, j < cap → (W.cell? ⟨g, j, none⟩).isSome = true := by
      intro j hj
      rw [hcell, Array.getElem?_eq_getElem (by omega)]
      rfl
    have hfz : ∀ j, W.frozen? ⟨g, j, none⟩ = false := fun j => frozen_of_row W g j cur _ hr
    rw [Nat.mul_one] at htk
    have hmx : maxLen = 9223372036854775807 := rfl
    by_cases hend : ps = L
    · subst hend
      have hxt : xs.take ps = xs := List.take_of_length_le (by omega)
      have hxd : xs.drop ps = [] := List.drop_of_length_le (by omega)
      rw [hxt, hxd]
      by_cases hroom : ps + 1 ≤ cap
      · refine (Any2.slices_Insert_int_end_room Tryz.laysIns g 0 ps cap wr.heap.size 0 1 1 [u] W (by omega) hroom (by omega) rfl (fun j hj => hsp _ (by omega)) (fun j hj => hfz _) hvs h1v).mono ?_
        rintro e w' ⟨rfl, rfl⟩
        refine ⟨⟨_, rfl, ?_⟩, lay_below hg _ _ _ hbW⟩
        have hh := heap_lay [u] (0 + ps) W cur hr
        refine own_row hh hg hroom hcm (by rw [layA_size]; exact hszc) (by simp; omega) ?_
        rw [layA_list _ _ _ (by simp; omega), Nat.zero_add, htk]
        have := take_three xs [] (cur.toList.drop (ps + [u].length)) u (ps + 1) (by simp; omega)
        rw [List.append_nil] at this
        exact this
      · refine (Any2.slices_Insert_int_end_grow Tryz.laysIns (some ⟨g, 0, none⟩) ps cap wr.heap.size 0 1 1 xs [u] W (by omega) hnc (by omega) (by omega) hxl rfl (fun e => by cases e) (fun a e j x hj => by
          injection e with e
          subst e
          have hadd : (⟨g, 0, none⟩ : Addr).add j = ⟨g, 0 + j, none⟩ := by unfold Addr.add; split <;> simp_all
          rw [hadd]
          exact hcs j x hj) hvs h1v).mono ?_
        rintro e w' ⟨rfl, rfl⟩
        rw [hren]
        refine ⟨⟨_, rfl, ?_⟩, ?_⟩
        · refine own_row (heap_alloc_new W.drew _) (by show base ≤ W.heap.size; omega) (grownCap_ge _ _ _ _) (grownCap_le_maxLen _ _ _ _ (by unfold maxLen; omega)) ?_ (by simp; omega) ?_
          · have := grownCap_ge W (ps + 1) cap 3
            simp [Builtin.zeroCells, Value.cells, hxl]
            omega
          · rw [Array.toList_append]
            rw [List.take_append_of_le_length (by simp; omega)]
            exact List.take_of_length_le (by simp; omega)
        · exact (hbW.drew).alloc (by show base ≤ W.heap.size; omega) _
    · have hlt' : ps < L := by omega
      have hdl : (xs.drop ps).length = L - ps := by rw [List.length_drop, hxl]
      have htl : (xs.take ps).length = ps := by rw [List.length_take]; omega
      by_cases hroom : L + 1 ≤ cap
      · refine (Any2.slices_Insert_int_shift Tryz.laysIns g 0 L cap ps wr.heap.size 0 1 1 xs [u] W hlt' (by omega) hroom (by omega) hgne hxl rfl hcs (fun j hj => by rw [Nat.zero_add]; exact hsp _ (by omega)) (fun j hj => hfz _) hvs h1 h1v 3 3 1 cap ?_ ?_ (by omega) ?_ ?_).mono ?_
        · simp [World.shape?, hvc]
        · simp [World.shape?, hr, hszc]
        · exact frozen_of_row W _ _ _ _ hvc
        · exact frozen_of_row W _ _ _ _ hvc
        · rintro e w' ⟨rfl, rfl⟩
          refine ⟨⟨_, rfl, ?_⟩, lay_below hg _ _ _ (lay_below hg _ _ _ hbW.drew)⟩
          have hh := heap_lay [u] (0 + ps) _ _ (heap_lay (xs.drop ps) (0 + (ps + 1)) W.drew cur hr)
          refine own_row hh hg hroom hcm (by rw [layA_size, layA_size]; exact hszc) (by simp; omega) ?_
          rw [Nat.zero_add, Nat.zero_add, layA_list _ _ _ (by rw [layA_size]; simp; omega), layA_list _ _ _ (by rw [hdl]; omega), hdl]
          have hcl : cur.toList.length = cap := by rw [Array.length_toList]; exact hszc
          have e1 : ((cur.toList.take (ps + 1) ++ xs.drop ps) ++ cur.toList.drop (ps + 1 + (L - ps))).take ps = xs.take ps := by
            rw [List.append_assoc, List.take_append_of_le_length (by rw [List.length_take]; omega), List.take_take, ← htk, List.take_take]
            congr 1
            omega
          have e2 : ((cur.toList.take (ps + 1) ++ xs.drop ps) ++ cur.toList.drop (ps + 1 + (L - ps))).drop (ps + [u].length) = xs.drop ps ++ cur.toList.drop (ps + 1 + (L - ps)) := by
            rw [List.append_assoc, List.drop_append, List.drop_of_length_le (by rw [List.length_take]; simp; omega), List.nil_append, List.length_take, show ps + [u].length - min (ps + 1) cur.toList.length = 0 by simp; omega, List.drop_zero]
          rw [e1, e2, ← List.append_assoc]
          exact take_three _ _ _ _ _ (by rw [htl, hdl]; omega)
      · refine (Any2.slices_Insert_int_grow Tryz.laysIns g 0 L cap ps wr.heap.size 0 1 1 xs [u] W hlt' (by omega) hnc (by omega) (by omega) hxl rfl hcs hvs h1 h1v).mono ?_
        rintro e w' ⟨rfl, rfl⟩
        rw [hren]
        have hG := grownCap_ge W (L + 1) cap 3
        obtain ⟨G, hGe⟩ : ∃ G, G = grownCap W (L + 1) cap 3 := ⟨_, rfl⟩
        have hGm : G ≤ maxLen := by rw [hGe]; exact grownCap_le_maxLen _ _ _ _ (by unfold maxLen; omega)
        rw [← hGe] at hG ⊢
        obtain ⟨ROW, hROW⟩ : ∃ ROW : Array Value, ROW = (xs.take ps).toArray ++ Builtin.zeroCells (Value.int .i64 0).cells (L + 1 - ps) ++ Builtin.zeroCells (Value.int .i64 0).cells (G - (L + 1)) := ⟨_, rfl⟩
        rw [← hROW]
        have hRs : ROW.size = G := by
          rw [hROW]
          simp [Builtin.zeroCells, Value.cells, htl]
          omega
        have hRt : ROW.toList.take ps = xs.take ps := by
          rw [hROW, Array.toList_append, Array.toList_append, List.append_assoc, List.take_append_of_le_length (by simp; omega)]
          exact List.take_of_length_le (by simp; omega)
        have hrow : (W.alloc (.cells ROW 3)).drew.heap[W.heap.size]? = some (.cells ROW 3 (0, 0)) := heap_alloc_new W _
        have hsz2 : base ≤ W.heap.size := by omega
        refine ⟨⟨_, rfl, ?_⟩, lay_below hsz2 _ _ _ (lay_below hsz2 _ _ _ (hbW.alloc hsz2 _).drew).drew⟩
        have hh := heap_lay (xs.drop ps) (ps + 1) ((W.alloc (.cells ROW 3)).drew.setCells W.heap.size ps [u]).drew _ (heap_lay [u] ps (W.alloc (.cells ROW 3)).drew ROW hrow)
        refine own_row hh hsz2 hG hGm (by rw [layA_size, layA_size]; exact hRs) (by simp; omega) ?_
        rw [layA_list _ _ _ (by rw [layA_size, hdl]; omega), layA_list _ _ _ (by simp; omega), hRt]
        have e1 : (xs.take ps ++ [u] ++ ROW.toList.drop (ps + [u].length)).take (ps + 1) = xs.take ps ++ [u] := by
          rw [List.take_append_of_le_length (by simp; omega)]
          exact List.take_of_length_le (by simp; omega)
        rw [e1]
        exact take_three _ _ _ _ _ (by rw [htl, hdl]; omega)
end

section
open Go.RowKit

theorem rdNum_le : ∀ (l : List UInt8) (bias k w i j : Nat) (r : List UInt8), rdNum l bias k w i = .ok (j, r) → j ≤ 1099511627776
  | [], bias, k, w, i, j, r, h => by cases h
  | b :: l, bias, k, w, i, j, r, h => by
    rw [rdNum] at h
    cases hp : pval b with
    | none => rw [hp] at h; cases h
    | some d =>
      rw [hp] at h
      simp only at h
      split at h
      · cases h
      · split at h
        · injection h with h
          injection h with h1 h2
          omega
        · split at h
          · cases h
          · exact rdNum_le l _ _ _ _ j r h
/-- What is left behind a number. -/
theorem rdNum_rest {D : ByteArray} {bias I j : Nat} {r : List UInt8} (h : rdNum (ls D) bias 0 1 I = .ok (j, r)) : I ≤ j ∧ j ≤ 1099511627776 ∧ r.length < D.size ∧ ls (D.extract (D.size - r.length) D.size) = r := by
  obtain ⟨q, x, e, hx, _, e3⟩ := rdNum_ok _ _ _ _ _ _ _ h
  have hl : D.size = x.length + r.length := by rw [← ls_length, e, List.length_append]
  have := List.length_pos_iff.2 hx
  refine ⟨by omega, rdNum_le _ _ _ _ _ _ _ h, by omega, ?_⟩
  rw [ls_extract, e, show D.size - r.length = x.length by omega, List.drop_left' rfl]
  exact List.take_of_length_le (by omega)
theorem decGo_eq (f : Nat) (l : List UInt8) (S : PSt) (b : Nat) (F : Bool) : decGo (f + 1) l S b F = if l = [] then .ok S.out else match rdNum l b 0 1 S.i with
    | .error e => .error e
    | .ok (j, r) => if ptN (S.val (j - S.i)) = false then .error 2 else if 256 < S.out.length + 1 then .error 3 else decGo f r (S.step (j - S.i)) (adp (j - S.i) (S.out.length + 1) F) false := by
  rw [decGo]
  split
  · rfl
  · cases rdNum l b 0 1 S.i with
    | error e => rfl
    | ok x => rfl
theorem one_ints (p : List Nat) : ∀ u ∈ p.map nvI, u.oneCell' = true := by
  intro u hu
  obtain ⟨n, _, rfl⟩ := List.mem_map.1 hu
  rfl

set_option maxRecDepth 20000 in
set_option maxHeartbeats 8000000 in
/-- The program's Decode. -/
theorem pD12 : PuDec 174 := by
  intro s w hs9
  obtain ⟨i3, hi3, hz0, hz1, hz2⟩ := info_parts infoInt
  by_cases hlen : 1024 < s.size
  · have hd : decide ((1024 : Int) < (s.size : Int)) = true := decide_eq_true (by omega)
    have HE : Hid (decL (ls s) = .error 3) := by show _ = _; unfold decL; rw [if_pos (by rw [ls_length]; exact hlen)]
    go_enter Tryz.func174, Tryz.ntmps174
    go_wp2
    go_ret2
    exact DecPost.err HE.out (Below.refl _ _)
  · have hd1024 : decide ((1024 : Int) < (s.size : Int)) = false := decide_eq_false (by omega)
    have hsz : s.size ≤ 1024 := by omega
    have hdl : decL (ls s) = if (ls s).any (fun b => decide (128 ≤ b.toNat)) = true then .error 4 else if 256 < cutL (ls s) then .error 3
      else decGo ((ls s).length + 1) (restL (ls s)) (PSt.start (((ls s).take (cutL (ls s))).map UInt8.toNat)) 72 true := by
      unfold decL
      rw [if_neg (by rw [ls_length]; exact hlen)]
    have cA := isAscii_any s hs9
    clear hlen hs9
    cases hany : (ls s).any (fun b => decide (128 ≤ b.toNat)) with
    | true =>
      rw [hany] at cA
      have HE : Hid (decL (ls s) = .error 4) := by show _ = _; rw [hdl, hany, if_pos rfl]
      clear hany hdl
      go_enter Tryz.func174, Tryz.ntmps174
      go_wp2_with (go_at_call 203; refine (cA _).mono ?_; rintro e w' ⟨rfl, rfl⟩)
      go_ret2
      exact DecPost.err HE.out (Below.refl _ _)
    | false =>
      rw [hany] at cA
      rw [hany, if_neg (by simp)] at hdl
      have cC := cutB_any s (by omega)
      have hCl : cutL (ls s) ≤ s.size := by
        by_cases h0 : 0 < cutL (ls s)
        · have := cutL_lt (ls s) h0
          rw [ls_length] at this
          omega
        · omega
      obtain ⟨C, hC⟩ : ∃ C, C = cutL (ls s) := ⟨_, rfl⟩
      obtain ⟨T, hT⟩ : ∃ T, T = bs ((ls s).take C) := ⟨_, rfl⟩
      obtain ⟨D0, hD0⟩ : ∃ D0, D0 = bs (restL (ls s)) := ⟨_, rfl⟩
      rw [← hC] at cC hdl hCl
      rw [← hT, ← hD0] at cC
      have hTs : T.size = C := by rw [hT, bs_size, List.length_take, ls_length]; omega
      have hTl : ls T = (ls s).take C := by rw [hT, ls_bs]
      have hD0l : ls D0 = restL (ls s) := by rw [hD0, ls_bs]
      have hD0s : D0.size ≤ 1024 := by
        rw [← ls_length, hD0l]
        unfold restL
        split
        · rw [List.length_drop, ls_length]; omega
        · rw [ls_length]; omega
      rw [← hTl, ← hD0l] at hdl
      have hfl : (ls s).length + 1 = s.size + 1 := by rw [ls_length]
      rw [hfl] at hdl
      have hD0f : D0.size ≤ s.size := by
        rw [← ls_length, hD0l]
        unfold restL
        split
        · rw [List.length_drop, ls_length]; omega
        · rw [ls_length]; exact Nat.le_refl _
      clear hany hC hT hD0 hTl hD0l hfl
      subst hTs
      by_cases h256 : 256 < T.size
      · have hd : decide ((256 : Int) < (T.size : Int)) = true := decide_eq_true (by omega)
        have hdN : decide (256 < T.size) = true := decide_eq_true (by omega)
        have HE : Hid (decL (ls s) = .error 3) := by show _ = _; rw [hdl, if_pos h256]
        clear hdl
        go_enter Tryz.func174, Tryz.ntmps174
        go_wp2_with fail
        refine (cA _).mono ?_
        rintro e w' ⟨rfl, rfl⟩
        go_wp2_with fail
        refine (cC _).mono ?_
        rintro e w' ⟨q, rfl, rfl⟩
        go_wp2
        go_ret2
        exact DecPost.err HE.out ⟨rfl, rfl, rfl, Nat.le_refl _, fun _ _ => rfl⟩
      · have hd : decide ((256 : Int) < (T.size : Int)) = false := decide_eq_false (by omega)
        have hdN : decide (256 < T.size) = false := decide_eq_false (by omega)
        rw [if_neg h256] at hdl
        have HDL := Lib.hid hdl
        clear hdl
        go_enter Tryz.func174, Tryz.ntmps174
        go_wp2_with fail
        refine (cA _).mono ?_
        rintro e w' ⟨rfl, rfl⟩
        go_wp2_with fail
        refine (cC _).mono ?_
        rintro e w' ⟨q, rfl, rfl⟩
        have hbq : Below w.heap.size w (w.drewN q) := ⟨rfl, rfl, rfl, Nat.le_refl _, fun _ _ => rfl⟩
        obtain ⟨wq, hwq⟩ : ∃ wq, wq = w.drewN q := ⟨_, rfl⟩
        rw [← hwq] at hbq ⊢
        clear hwq
        go_wp2_with fail
        go_loopg [6, 31] T.size (fun g v i wr => ∃ k : Nat, k ≤ T.size ∧ g = T.size - k ∧ i = .int .i64 k ∧ wr.ownsRow w.heap.size 3 1 v k ((((ls T).take k).map UInt8.toNat).map nvI) ∧ Below w.heap.size w wr)
        case atStart => exact ⟨0, Nat.zero_le _, rfl, rfl, World.ownsRow_nil _ _ _ _, hbq⟩
        case round =>
          clear hbq
          obtain ⟨k, hk2, hg, rfl, hown, hb⟩ := hrel
          have HG := Lib.hid hg
          clear hg
          by_cases hlt2 : k < T.size
          · have hkd : decide ((k : Int) < (T.size : Int)) = true := decide_eq_true (by omega)
            have hkN : decide (k < T.size) = true := decide_eq_true hlt2
            have htk := take_ls_succ T k hlt2
            have hbl := byte_lt T[k]
            have HTK : Hid ((((ls T).take (k + 1)).map UInt8.toNat).map nvI = (((ls T).take k).map UInt8.toNat).map nvI ++ [.int .i64 (T[k].toNat : Int)]) := by
              show _ = _
              rw [htk]
              simp
            clear htk
            go_wp2_with (at_builtin; refine wpList_app_one wr rfl _ _ 38 rfl w.heap.size 3 i3 (.int .i64 0) 8 tyInts hi3 hz0 hz1 hz2 rfl _ (by exact rfl) _ _ _ (by exact rfl) hown (by exact rfl) (by unfold maxLen; omega) (by omega) hb (Nat.le_refl _) ?_; intro v' w' hown' hb' _)
            go_roundg (T.size - (k + 1))
            case rel =>
              refine ⟨k + 1, by omega, rfl, by go_num, ?_, hb'⟩
              rw [HTK.out]
              exact hown'
            case measure => rw [HG.out]; omega
          · obtain rfl : k = T.size := by omega
            have hkd : decide ((T.size : Int) < (T.size : Int)) = false := by simp
            have hLk : ((ls T).map UInt8.toNat).length = T.size := by rw [List.length_map, ls_length]
            have HLK := Lib.hid hLk
            rw [take_ls_all] at hown
            clear hLk
            obtain ⟨n0, hn0⟩ : ∃ n0, n0 = T.size := ⟨_, rfl⟩
            rw [← hn0] at hown
            have HN0 := Lib.hid hn0
            have hn0b : n0 ≤ 256 := by omega
            clear hn0
            go_wp2_with fail
            go_loopg [5, 6, 8, 9, 10] D0.size (fun g dv v nn ii bi wr => ∃ (D : ByteArray) (S : PSt) (N I b L : Nat) (F : Bool), g = D.size ∧ dv = .string D ∧ nn = .int .i64 N ∧ ii = .int .i64 I ∧ bi = .int .i64 b ∧ D.size ≤ 1024 ∧ L ≤ 256 ∧ N ≤ 1114111 ∧ I ≤ 257 ∧ b ≤ 1000 ∧ Hid (S.out.length = L ∧ S.n = N ∧ S.i = I) ∧ Hid (((I : Int) == 0) = F ∧ (I == 0) = F) ∧
              Hid (∃ f, D.size < f ∧ decL (ls s) = decGo f (ls D) S b F) ∧ wr.ownsRow w.heap.size 3 1 v L (S.out.map nvI) ∧ Below w.heap.size w wr)
            case atStart => exact ⟨D0, PSt.start ((ls T).map UInt8.toNat), 128, 0, 72, n0, true, rfl, rfl, rfl, rfl, rfl, hD0s, hn0b, by omega, by omega, by omega, Lib.hid ⟨HLK.out.trans HN0.out.symm, rfl, rfl⟩, Lib.hid ⟨rfl, rfl⟩, Lib.hid ⟨s.size + 1, by omega, HDL.out⟩, hown, hb⟩
            case round =>
              clear hown hb
              obtain ⟨D, S, N, I, b, L, F, hg3, rfl, rfl, rfl, rfl, hDs, hL, hN, hI, hbb, HS, HF0, HF, hown, hb⟩ := hrel
              have HG3 := Lib.hid hg3
              clear hg3
              obtain ⟨A6, c6, rfl, _, _⟩ := Has.of_own hown
              by_cases hD0 : D.size = 0
              · have hE : ls D = [] := List.eq_nil_of_length_eq_zero (by rw [ls_length]; exact hD0)
                have hem : D.toList.isEmpty = true := by rw [toList_ls, hE]; rfl
                have HE : Hid (decL (ls s) = .ok S.out) := by
                  show _ = _
                  obtain ⟨f, hf, he⟩ := HF.out
                  cases f with
                  | zero => omega
                  | succ f => rw [he, decGo_eq, hE, if_pos rfl]
                clear hE hD0
                go_wp2
                go_ret2
                refine DecPost.ok HE.out ?_ hb
                rw [HS.out.1]
                exact hown
              · have hE : ls D ≠ [] := by
                  intro h0
                  rw [← ls_length, h0] at hD0
                  exact hD0 rfl
                have hem : D.toList.isEmpty = false := by
                  rw [toList_ls]
                  cases hx : ls D with
                  | nil => exact absurd hx hE
                  | cons a r => rfl
                have hF2 : ∃ f, D.size ≤ f ∧ decL (ls s) = match rdNum (ls D) b 0 1 I with
                    | .error e => .error e
                    | .ok (j, r) => if ptN (S.val (j - I)) = false then .error 2 else if 256 < L + 1 then .error 3 else decGo f r (S.step (j - I)) (adp (j - I) (L + 1) F) false := by
                  obtain ⟨f, hf, he⟩ := HF.out
                  cases f with
                  | zero => omega
                  | succ f =>
                    refine ⟨f, by omega, ?_⟩
                    rw [he, decGo_eq, if_neg hE, HS.out.1, HS.out.2.2]
                obtain ⟨f, hf, hfin⟩ := hF2
                have cT := thr_make b (by omega) wr
                have hbr : ∀ wt, Below wr.heap.size wr wt → wr.heap.size ≤ wt.heap.size := fun wt h => h.size
                have HBR := Lib.hid hbr
                clear hbr HF hE hD0
                cases hrd : rdNum (ls D) b 0 1 I with
                | error c =>
                  rw [hrd] at hfin
                  have hc0 := rdNum_err _ _ _ _ _ _ hrd
                  have hcz : ((c : Int) != 0) = true := by rw [bne_iff_ne]; omega
                  have hczN : (c != 0) = true := by rw [bne_iff_ne]; omega
                  obtain ⟨e1, e2, e3⟩ := add_err (n := D.size) hrd
                  have cN := fun (wt : World) (bk bb : Nat) hc => addN_any wr.heap.size wt D I b bk bb hc
                  rw [e1, e2, e3] at cN
                  have HE := Lib.hid hfin
                  have HCN := Lib.hid cN
                  clear hfin hrd hc0 e1 e2 e3 cN
                  go_wp2_with fail
                  refine cT.mono ?_
                  rintro e wt ⟨⟨bk, bb, rfl, hclo⟩, hbt⟩
                  have HCLO := Lib.hid hclo
                  clear hclo
                  go_wp2_with fail
                  refine (HCN.out wt bk bb HCLO.out hbt.size (by omega) hbb (by omega)).mono ?_
                  rintro e w1 ⟨rfl, hb1⟩
                  have hb2 := hb.trans ((hbt.trans hb1).mono hb.size)
                  clear hb1 hbt hb hown
                  go_wp2
                  go_ret2
                  exact DecPost.err HE.out hb2
                | ok x =>
                  obtain ⟨j, r⟩ := x
                  rw [hrd] at hfin
                  obtain ⟨hIj, hj40, hrl, hrx⟩ := rdNum_rest hrd
                  obtain ⟨e1, e2, e3⟩ := add_ok (n := D.size) hrd
                  obtain ⟨sz, hszd⟩ : ∃ sz, sz = D.size - r.length := ⟨_, rfl⟩
                  rw [← hszd] at e3 hrx
                  have hsz1 : sz ≤ D.size := by omega
                  have hsz0 : 1 ≤ sz := by omega
                  obtain ⟨D2, hD2⟩ : ∃ D2, D2 = D.extract sz D.size := ⟨_, rfl⟩
                  rw [← hD2] at hrx
                  have hD2s : D2.size = D.size - sz := by rw [hD2, ByteArray.size_extract]; omega
                  have cN := fun (wt : World) (bk bb : Nat) hc => addN_any wr.heap.size wt D I b bk bb hc
                  rw [e1, e2, e3] at cN
                  have HCN := Lib.hid cN
                  have HD2 := Lib.hid hD2
                  have hD2b : D2.size ≤ 1024 := by omega
                  have hD2f : D2.size < f := by omega
                  have HG2 : Hid (D2.size < D.size) := Lib.hid (by omega)
                  simp only at hfin
                  rw [← hrx] at hfin
                  clear hrd e1 e2 e3 cN hrl hrx hszd hD2 hD2s hf
                  have hval : S.val (j - I) = N + j / (L + 1) := by
                    unfold PSt.val
                    rw [HS.out.1, HS.out.2.1, HS.out.2.2, show I + (j - I) = j by omega]
                  have hpos : S.pos (j - I) = j % (L + 1) := by
                    unfold PSt.pos
                    rw [HS.out.1, HS.out.2.2, show I + (j - I) = j by omega]
                  obtain ⟨dv, hdv⟩ : ∃ dv, dv = j / (L + 1) := ⟨_, rfl⟩
                  obtain ⟨ps, hps⟩ : ∃ ps, ps = j % (L + 1) := ⟨_, rfl⟩
                  have hdvb : dv ≤ j := by rw [hdv]; exact Nat.div_le_self _ _
                  have hpsb : ps ≤ L := by rw [hps]; have := Nat.mod_lt j (show 0 < L + 1 by omega); omega
                  have hdvi : Int.tdiv (j : Int) ((L : Int) + 1) = (dv : Int) := by
                    rw [Int.tdiv_eq_ediv_of_nonneg (by omega), hdv, show ((L : Int) + 1) = ((L + 1 : Nat) : Int) by omega]
                    exact (Int.natCast_ediv _ _).symm
                  have hpsi : Int.tmod (j : Int) ((L : Int) + 1) = (ps : Int) := by
                    rw [Int.tmod_eq_emod_of_nonneg (by omega), hps, show ((L : Int) + 1) = ((L + 1 : Nat) : Int) by omega]
                    exact (Int.natCast_emod _ _).symm
                  have hne0 : ¬ ((L : Int) + 1 = 0) := by omega
                  rw [← hdv] at hval
                  rw [← hps] at hpos
                  obtain ⟨n2, hn2⟩ : ∃ n2, n2 = N + dv := ⟨_, rfl⟩
                  rw [← hn2] at hval
                  have hn2i : (N : Int) + (dv : Int) = (n2 : Int) := by omega
                  have cA2 := adp_any (j - I) (L + 1) F (by omega) (by omega) (by omega)
                  rw [show ((j - I : Nat) : Int) = (j : Int) - (I : Int) by omega, show ((L + 1 : Nat) : Int) = (L : Int) + 1 by omega] at cA2
                  have hb2 : adp (j - I) (L + 1) F ≤ 1000 := adp_le _ _ _ (by omega)
                  obtain ⟨b2, hb2e⟩ : ∃ b2, b2 = adp (j - I) (L + 1) F := ⟨_, rfl⟩
                  rw [← hb2e] at cA2 hb2 hfin
                  rw [hval] at hfin
                  have cP := isPt_any (n2 : Int)
                  rw [ptZ_nat] at cP
                  have HSTEP : Hid ((S.step (j - I)).out = S.out.take ps ++ n2 :: S.out.drop ps ∧ (S.step (j - I)).n = n2 ∧ (S.step (j - I)).i = ps + 1) := by
                    refine Lib.hid ⟨?_, hval, ?_⟩
                    · show S.out.take (S.pos _) ++ S.val _ :: S.out.drop (S.pos _) = _
                      rw [hval, hpos]
                    · show S.pos _ + 1 = _
                      rw [hpos]
                  have hfi := HF0.out.1
                  have hfiN := HF0.out.2
                  have HFIN := Lib.hid hfin
                  have hi1 : (0 : Int) ≤ (sz : Int) := by omega
                  have hi2 : (sz : Int) ≤ (D.size : Int) := by omega
                  clear hval hpos hdv hps hn2 hb2e hfin HDL
                  cases hpt : ptN n2 with
                  | false =>
                    rw [hpt] at cP
                    have HE : Hid (decL (ls s) = .error 2) := by show _ = _; rw [HFIN.out, if_pos hpt]
                    clear hpt HFIN
                    go_wp2_with fail
                    refine cT.mono ?_
                    rintro e wt ⟨⟨bk, bb, rfl, hclo⟩, hbt⟩
                    have HCLO := Lib.hid hclo
                    clear hclo
                    go_wp2_with fail
                    refine (HCN.out wt bk bb HCLO.out hbt.size (by omega) hbb (by omega)).mono ?_
                    rintro e w1 ⟨rfl, hb1⟩
                    have hb3 := hb.trans ((hbt.trans hb1).mono hb.size)
                    clear hb1 hbt hb hown
                    go_wp2_with (first
                      | (go_at_call 166; refine (cA2 _).mono ?_; rintro e w' ⟨rfl, rfl⟩)
                      | (go_at_call 162; refine (cP _).mono ?_; rintro e w' ⟨rfl, rfl⟩))
                    go_ret2
                    exact DecPost.err HE.out hb3
                  | true =>
                    rw [hpt] at cP
                    have hn2b := ptN_le hpt
                    have HFQ : Hid (decL (ls s) = if 256 < L + 1 then .error 3 else decGo f (ls D2) (S.step (j - I)) b2 false) := by show _ = _; rw [HFIN.out, if_neg (by rw [hpt]; simp)]
                    clear hpt HFIN
                    by_cases h257 : 256 < L + 1
                    · have hld2 : decide ((256 : Int) < (L : Int) + 1) = true := decide_eq_true (by omega)
                      have hldN : decide (256 < L + 1) = true := decide_eq_true h257
                      have HE : Hid (decL (ls s) = .error 3) := by show _ = _; rw [HFQ.out, if_pos h257]
                      go_wp2_with fail
                      refine cT.mono ?_
                      rintro e wt ⟨⟨bk, bb, rfl, hclo⟩, hbt⟩
                      have HCLO := Lib.hid hclo
                      clear hclo
                      go_wp2_with fail
                      refine (HCN.out wt bk bb HCLO.out hbt.size (by omega) hbb (by omega)).mono ?_
                      rintro e w1 ⟨rfl, hb1⟩
                      have hb3 := hb.trans ((hbt.trans hb1).mono hb.size)
                      clear hb1 hbt hb hown
                      go_wp2_with (first
                        | (go_at_call 166; refine (cA2 _).mono ?_; rintro e w' ⟨rfl, rfl⟩)
                        | (go_at_call 162; refine (cP _).mono ?_; rintro e w' ⟨rfl, rfl⟩))
                      go_ret2
                      exact DecPost.err HE.out hb3
                    · have hld2 : decide ((256 : Int) < (L : Int) + 1) = false := decide_eq_false (by omega)
                      have hldN : decide (256 < L + 1) = false := decide_eq_false h257
                      have HF2 : Hid (∃ f, D2.size < f ∧ decL (ls s) = decGo f (ls D2) (S.step (j - I)) b2 false) := Lib.hid ⟨f, hD2f, by rw [HFQ.out, if_neg h257]⟩
                      have HS2 : Hid ((S.step (j - I)).out.length = L + 1 ∧ (S.step (j - I)).n = n2 ∧ (S.step (j - I)).i = ps + 1) := Lib.hid ⟨by rw [PSt.step_len, HS.out.1], HSTEP.out.2.1, HSTEP.out.2.2⟩
                      have HOUT : Hid ((S.step (j - I)).out.map nvI = (S.out.map nvI).take ps ++ .int .i64 (n2 : Int) :: (S.out.map nvI).drop ps) := by
                        show _ = _
                        rw [HSTEP.out.1, List.map_append, List.map_cons, List.map_take, List.map_drop]
                      clear HFQ
                      go_wp2_with fail
                      refine cT.mono ?_
                      rintro e wt ⟨⟨bk, bb, rfl, hclo⟩, hbt⟩
                      have HCLO := Lib.hid hclo
                      clear hclo
                      go_wp2_with fail
                      refine (HCN.out wt bk bb HCLO.out hbt.size (by omega) hbb (by omega)).mono ?_
                      rintro e w1 ⟨rfl, hb1⟩
                      have hb3 := hb.trans ((hbt.trans hb1).mono hb.size)
                      have hown1 := own_below hown (hbt.trans (hb1))
                      clear hb1 hbt hb hown
                      go_wp2_with (first
                        | (go_at_call 166; refine (cA2 _).mono ?_; rintro e w' ⟨rfl, rfl⟩)
                        | (go_at_call 162; refine (cP _).mono ?_; rintro e w' ⟨rfl, rfl⟩))
                      refine (ins_any w.heap.size w w1 _ L ps _ (.int .i64 (n2 : Int)) hown1 hb3 (Nat.le_refl _) hpsb (by omega) rfl (one_ints _)).mono ?_
                      rintro e wa ⟨⟨va, rfl, howna⟩, hba⟩
                      rw [← HOUT.out] at howna
                      clear hown1 hb3
                      rw [← HD2.out]
                      go_wp2
                      go_roundg D2.size
                      case rel =>
                        refine ⟨D2, S.step (j - I), n2, ps + 1, b2, L + 1, false, rfl, rfl, rfl, by go_num, rfl, hD2b, by omega, hn2b, by omega, hb2, HS2, Lib.hid ⟨?_, by simp⟩, HF2, howna, hba⟩
                        rw [beq_eq_false_iff_ne]
                        omega
                      case measure => rw [HG3.out]; exact HG2.out
end

section
open Go.RowKit

set_option maxRecDepth 20000 in
set_option maxHeartbeats 8000000 in
theorem enc_ok (P : List Nat) (hP : ∀ p ∈ P, ptN p = true) (hl : P.length ≤ 256) (A : Option Addr) (len cap B : Nat) (w : World) (hA : Has w B A len (P.map iv)) (hB : B ≤ w.heap.size) :
    Calls Tryz.prog 124 #[.slice A len cap] w fun e w' => e = .returned (.tuple #[.string (bs (encB P)), .int .i64 0]) ∧ Below w.heap.size w w' := by
  obtain ⟨i5, hi5, hz0, hz1, hz2⟩ := info_parts infoU8
  have hlen : len = P.length := by have := hA.1; simpa using this.symm
  subst hlen
  have H := Lib.hid hA
  have HP := Lib.hid hP
  clear hA hP
  have hd256 : decide ((256 : Int) < (P.length : Int)) = false := decide_eq_false (by omega)
  go_enter Tryz.func124, Tryz.ntmps124
  go_wp2
  go_loopw [4, 20] (fun v i wr => ∃ (k : Nat) (O : List Nat), k ≤ P.length ∧ i = .int .i64 k ∧ Hid (O = basicN (P.take k)) ∧ O.length ≤ 256 ∧ wr.ownsRow w.heap.size 5 1 v O.length ((O.map UInt8.ofNat).map bv) ∧ Below w.heap.size w wr) (fun _ i _ => P.length - (intOf i).toNat)
  case atStart => exact ⟨0, [], Nat.zero_le _, rfl, Lib.hid rfl, by simp, World.ownsRow_nil _ _ _ _, Below.refl _ _⟩
  case round =>
    obtain ⟨k, O, hk, rfl, HO, hOl, hown, hb⟩ := hrel
    by_cases hlt : k < P.length
    · obtain ⟨b1, o1, rfl, l1, d1⟩ := H.out.2 (by omega)
      have g1 := cell_iv H.out hb hB k hlt hlt
      have hkd : decide ((k : Int) < (P.length : Int)) = true := decide_eq_true (by omega)
      have hpt : ptZ ((P[k] : Nat) : Int) = true := by rw [ptZ_nat]; exact HP.out _ (List.getElem_mem hlt)
      have hple : P[k] ≤ 1114111 := ptN_le (HP.out _ (List.getElem_mem hlt))
      have c1 := isPt_any ((P[k] : Nat) : Int)
      have hbt := basicN_take P k hlt
      have hbl := basicN_len (P.take (k + 1))
      have hbl2 : (P.take (k + 1)).length ≤ 256 := by rw [List.length_take]; omega
      obtain ⟨p, hp⟩ : ∃ p, p = P[k] := ⟨_, rfl⟩
      rw [← hp] at g1 c1 hple hbt hpt
      rw [hpt] at c1
      rw [← HO.out] at hbt
      clear d1 hp hpt
      by_cases h128 : p < 128
      · have hd : decide ((p : Int) < 128) = true := decide_eq_true (by omega)
        rw [if_pos h128] at hbt
        have HBV := Lib.hid (bv_ofNat h128)
        have HO2 := Lib.hid hbt.symm
        rw [hbt, List.length_append, List.length_singleton] at hbl
        clear hbt
        go_wp2_with (first | (go_at_call 162; refine (c1 _).mono ?_; rintro e w' ⟨rfl, rfl⟩) | (at_builtin; refine wpList_app_one wr rfl _ _ 40 rfl w.heap.size 5 i5 (.int .u8 0) 1 tyBs hi5 hz0 hz1 hz2 rfl _ (by exact rfl) _ _ _ (by exact rfl) hown (by exact rfl) (by unfold maxLen; omega) (by omega) hb (Nat.le_refl _) ?_; intro v' w' hown' hb' _))
        go_roundw
        case rel =>
          refine ⟨k + 1, O ++ [p], by omega, by go_num, HO2, by simp; omega, ?_, hb'⟩
          rw [List.map_append, List.map_append, List.length_append]
          simp only [List.map_cons, List.map_nil, HBV.out, List.length_singleton]
          exact hown'
        case measure => simp [intOf]; omega
      · have hd : decide ((p : Int) < 128) = false := decide_eq_false (by omega)
        rw [if_neg h128, List.append_nil] at hbt
        have HO2 := Lib.hid hbt.symm
        clear hbt
        go_wp2_with (go_at_call 162; refine (c1 _).mono ?_; rintro e w' ⟨rfl, rfl⟩)
        go_roundw
        case rel => exact ⟨k + 1, O, by omega, by go_num, HO2, by omega, hown, hb⟩
        case measure => simp [intOf]; omega
    · obtain rfl : k = P.length := by omega
      have hkd : decide ((P.length : Int) < (P.length : Int)) = false := by simp
      have HO2 : Hid (O = basicN P) := by show _ = _; rw [HO.out, List.take_length]
      clear HO
      obtain ⟨A4, c4, rfl, _, _⟩ := Has.of_own hown
      have hO0 : (basicN P = []) = (O = []) := by rw [HO2.out]
      go_upto_if 38 with fail
      go_cut [4] from 38 to 41 (fun v wx => ∃ X : List UInt8, Hid (X = outB P []) ∧ X.length ≤ 257 ∧ wx.ownsRow w.heap.size 5 1 v X.length (X.map bv) ∧ Below w.heap.size w wx)
      case first =>
        by_cases h0 : O = []
        · have hd0 : decide ((0 : Int) < (O.length : Int)) = false := by rw [h0]; rfl
          have hdN : ¬ (0 < O.length) := by rw [h0]; simp
          have hdB : decide (0 < O.length) = false := by rw [h0]; rfl
          go_wp2_with fail
          go_meet
          refine ⟨O.map UInt8.ofNat, ?_, by simp; omega, ?_, hb⟩
          · show _ = _
            rw [outB_nil, ← HO2.out, if_pos h0, List.append_nil]
          · rw [List.length_map]
            exact hown
        · have hdN : 0 < O.length := List.length_pos_iff.2 h0
          have hd0 : decide ((0 : Int) < (O.length : Int)) = true := decide_eq_true (by omega)
          have hdB : decide (0 < O.length) = true := decide_eq_true hdN
          go_wp2_with (at_builtin; refine wpList_app_one wr rfl _ _ 40 rfl w.heap.size 5 i5 (.int .u8 0) 1 tyBs hi5 hz0 hz1 hz2 rfl _ (by exact rfl) _ _ _ (by exact rfl) hown (by exact rfl) (by unfold maxLen; omega) (by omega) hb (Nat.le_refl _) ?_; intro v' w' hown' hb' _)
          go_meet
          refine ⟨O.map UInt8.ofNat ++ [45], ?_, by simp; omega, ?_, hb'⟩
          · show _ = _
            rw [outB_nil, ← HO2.out, if_neg h0]
          · rw [List.map_append, List.length_append, List.length_map]
            exact hown'
      case rest =>
      obtain ⟨X, HX, hXl, hown2, hb2⟩ := hcut
      have hbas : O.length = (basicN P).length := by rw [HO2.out]
      obtain ⟨bas, hbs⟩ : ∃ bas, bas = O.length := ⟨_, rfl⟩
      rw [← hbs] at hOl hbas ⊢
      have HBAS := Lib.hid hbas
      clear hown hb hO0 HO2 hbs hbas
      go_wp2_with fail
      go_loopg [4, 8, 9, 10, 11] (P.length - bas) (fun g v nn ee bi dn wr => ∃ (D : List Nat) (d0 n0 e0 b0 : Nat) (X : List UInt8), g = P.length - d0 ∧ dn = .int .i64 d0 ∧ nn = .int .i64 n0 ∧ ee = .int .i64 e0 ∧ bi = .int .i64 b0 ∧ d0 ≤ 256 ∧ n0 ≤ 1114112 ∧ e0 ≤ 17179869184 ∧ b0 ≤ 1000 ∧ X.length ≤ 3400 ∧
        Hid (EncAt P D n0 e0) ∧ Hid (d0 = (stP P D).out.length) ∧ Hid (b0 = biasB P D) ∧ Hid (X = outB P D) ∧ wr.ownsRow w.heap.size 5 1 v X.length (X.map bv) ∧ Below w.heap.size w wr)
      case atStart => exact ⟨[], bas, 128, 0, 72, X, rfl, rfl, rfl, rfl, rfl, hOl, by omega, by omega, by omega, by omega, Lib.hid (EncAt.first P), HBAS, Lib.hid rfl, HX, hown2, hb2⟩
      case round =>
        clear hown2 hb2 HX hXl
        obtain ⟨D, d0, n0, e0, b0, X, hg, rfl, rfl, rfl, rfl, hd0, hn0, he0, hb0, hXl, HE, HD, HBI, HX, hown, hb⟩ := hrel
        have HG := Lib.hid hg
        clear hg
        by_cases hlt0 : d0 < P.length
        · have hdl : decide ((d0 : Int) < (P.length : Int)) = true := decide_eq_true (by omega)
          have hrnd := HE.out.round HP.out (by rw [← HD.out]; exact hlt0)
          have cS := small_any n0 hn0 P HP.out hl A cap B w wr H.out hb hB
          obtain ⟨m, hm⟩ : ∃ m, m = leastG n0 P := ⟨_, rfl⟩
          rw [← hm, ← HD.out] at hrnd
          rw [← hm] at cS
          obtain ⟨hnm, hm11, hmem, hR⟩ := hrnd
          rw [Nat.min_eq_right hm11] at cS
          have HMEM := Lib.hid hmem
          obtain ⟨e1, he1⟩ : ∃ e1, e1 = e0 + (m - n0) * (d0 + 1) := ⟨_, rfl⟩
          rw [← he1] at hR
          have hmul : ((m : Int) - (n0 : Int)) * ((d0 : Int) + 1) = (((m - n0) * (d0 + 1) : Nat) : Int) := by
            rw [Int.natCast_mul, Int.natCast_sub hnm, Int.natCast_add]
            rfl
          have hmb : (m - n0) * (d0 + 1) ≤ 1114111 * 257 := Nat.mul_le_mul (by omega) (by omega)
          have hm0 : 0 ≤ ((m : Int) - (n0 : Int)) * ((d0 : Int) + 1) := by omega
          have hm1 : ((m : Int) - (n0 : Int)) * ((d0 : Int) + 1) ≤ 286326527 := by omega
          have hsum : (e0 : Int) + ((m : Int) - (n0 : Int)) * ((d0 : Int) + 1) = (e1 : Int) := by omega
          have HSUM := Lib.hid hsum
          have he1b := hR.small hl
          have HR := Lib.hid hR
          clear hmul hmb hsum he1 hR hm hmem
          go_wp2_with fail
          refine cS.mono ?_
          rintro e w' ⟨rfl, rfl⟩
          go_wp2_with fail
          obtain ⟨go2, rfl⟩ : ∃ go2 : Nat, go2 = gk := ⟨_, rfl⟩
          go_loopg [4, 9, 10, 11, 61] P.length (fun g v ee bi dn i wr => ∃ (k : Nat) (D : List Nat) (d1 e1 b1 : Nat) (X : List UInt8), k ≤ P.length ∧ g = P.length - k ∧ i = .int .i64 k ∧ dn = .int .i64 d1 ∧ ee = .int .i64 e1 ∧ bi = .int .i64 b1 ∧ d1 ≤ 256 ∧ e1 ≤ 17179869184 ∧ b1 ≤ 1000 ∧ X.length ≤ 3400 ∧
            Hid (RndAt P D (P.take k) (P.drop k) m e1) ∧ Hid (d1 = (stP P D).out.length) ∧ Hid (b1 = biasB P D) ∧ Hid (X = outB P D) ∧ Hid (d0 < d1 + ((P.drop k).filter (fun x => decide (x = m))).length) ∧ wr.ownsRow w.heap.size 5 1 v X.length (X.map bv) ∧ Below w.heap.size w wr)
          case atStart =>
            refine ⟨0, D, d0, e1, b0, X, Nat.zero_le _, rfl, rfl, rfl, congrArg (Value.int .i64) HSUM.out, rfl, hd0, he1b, hb0, hXl, ?_, HD, HBI, HX, ?_, hown, hb⟩
            · show RndAt _ _ _ _ _ _
              rw [List.drop_zero, List.take_zero]
              exact HR.out
            · show _ < _
              rw [List.drop_zero]
              have : 0 < (P.filter (fun x => decide (x = m))).length := by
                rw [← List.countP_eq_length_filter, List.countP_pos_iff]
                exact ⟨m, HMEM.out, by simp⟩
              omega
          case round =>
            clear hown hb HX hXl
            obtain ⟨k, D, d1, e1, b1, X, hk, hg4, rfl, rfl, rfl, rfl, hd1, he1, hb1, hXl, HR, HD1, HB1, HX, HCNT, hown, hb⟩ := hrel
            have HG4 := Lib.hid hg4
            clear hg4
            by_cases hlt4 : k < P.length
            · obtain ⟨b', o1, rfl, l1, dd1⟩ := H.out.2 (by omega)
              have g1 := cell_iv H.out hb hB k hlt4 hlt4
              have hple : P[k] ≤ 1114111 := ptN_le (HP.out _ (List.getElem_mem hlt4))
              have hdr : P.drop k = P[k] :: P.drop (k + 1) := List.drop_eq_getElem_cons hlt4
              have htk : P.take (k + 1) = P.take k ++ [P[k]] := List.take_succ_eq_append_getElem hlt4
              obtain ⟨p, hp⟩ : ∃ p, p = P[k] := ⟨_, rfl⟩
              rw [← hp] at g1 hple hdr htk
              have hkd : decide ((k : Int) < (P.length : Int)) = true := decide_eq_true (by omega)
              have hR2 := HR.out
              rw [hdr] at hR2
              have hcnt := HCNT.out
              rw [hdr] at hcnt
              clear dd1 hp
              by_cases hpm : p < m
              · have hpd : decide ((p : Int) < (m : Int)) = true := decide_eq_true (by omega)
                have hpN : decide (p < m) = true := decide_eq_true hpm
                have hR3 := hR2.skip hpm
                rw [← htk] at hR3
                have he3 := hR3.small hl
                have HR3 := Lib.hid hR3
                have HC3 : Hid (d0 < d1 + ((P.drop (k + 1)).filter (fun x => decide (x = m))).length) := by
                  show _ < _
                  rw [List.filter_cons_of_neg (by simp; omega)] at hcnt
                  exact hcnt
                clear hR2 hR3 hcnt hdr htk
                go_wp2
                go_roundg (P.length - (k + 1))
                case rel => exact ⟨k + 1, D, d1, e1 + 1, b1, X, by omega, rfl, by go_num, rfl, by go_num, rfl, hd1, he3, hb1, hXl, HR3, HD1, HB1, HX, HC3, hown, hb⟩
                case measure => rw [HG4.out]; omega
              · by_cases hpe : p = m
                · subst hpe
                  have hpd : decide ((p : Int) < (p : Int)) = false := by simp
                  have hne : ((p : Int) == (p : Int)) = true := by simp
                  have hR3 := hR2.emit
                  rw [← htk] at hR3
                  have hol := hR3.outlen
                  have hXl3 := hR3.len HP.out hl
                  have hb3 := hR3.bias HP.out hl
                  have HR3 := Lib.hid hR3
                  have hst : (stP P (D ++ [e1])).out.length = d1 + 1 := by rw [stP_snoc, PSt.step_len, HD1.out]
                  rw [hst] at hol
                  have HST := Lib.hid hst
                  have HC3 : Hid (d0 < d1 + 1 + ((P.drop (k + 1)).filter (fun x => decide (x = p))).length) := by
                    show _ < _
                    rw [List.filter_cons_of_pos (by simp), List.length_cons] at hcnt
                    omega
                  have hfst : ((d1 : Int) == (bas : Int)) = D.isEmpty := by
                    rw [HD1.out, stP_len, HBAS.out]
                    cases D with
                    | nil => simp
                    | cons x D => simp; omega
                  have hfsN : (d1 == bas) = D.isEmpty := by
                    rw [HD1.out, stP_len, HBAS.out]
                    cases D with
                    | nil => simp
                    | cons x D => simp
                  have hbn : biasB P (D ++ [e1]) = adp e1 (d1 + 1) D.isEmpty := by rw [biasB_snoc, HD1.out]
                  have hXn : outB P (D ++ [e1]) = X ++ (genV e1 0 b1).map digB := by rw [outB_snoc, HX.out, HB1.out]
                  have cA := adp_any e1 (d1 + 1) D.isEmpty (by omega) (by omega) (by omega)
                  rw [← hbn] at cA
                  obtain ⟨b2, hb2⟩ : ∃ b2, b2 = biasB P (D ++ [e1]) := ⟨_, rfl⟩
                  rw [← hb2] at cA hb3
                  rw [show ((d1 + 1 : Nat) : Int) = (d1 : Int) + 1 by omega] at cA
                  have HB2 := Lib.hid hb2
                  have HXN := Lib.hid hXn
                  generalize D.isEmpty = fst at *
                  clear hR2 hR3 hcnt hdr htk hst hbn hXn hb2
                  go_wp2_with fail
                  refine (thr_make b1 (by omega) wr).mono ?_
                  rintro e wt ⟨⟨bk, bb, rfl, hclo⟩, hbt⟩
                  have hownt := own_below hown hbt
                  have hbt2 := hb.trans (hbt.mono hb.size)
                  have HCLO := Lib.hid (hclo.mono hb.size)
                  clear hclo hbt hown hb
                  go_wp2_with fail
                  refine (appN_any w.heap.size w wt _ X X.length rfl e1 b1 bk bb hownt HCLO.out hbt2 (Nat.le_refl _) he1 hb1 (by omega)).mono ?_
                  rintro e wa ⟨⟨va, rfl, howna⟩, hba⟩
                  clear hownt hbt2
                  go_wp2_with (go_at_call 166; refine (cA _).mono ?_; rintro e w' ⟨rfl, rfl⟩)
                  go_roundg (P.length - (k + 1))
                  case rel =>
                    refine ⟨k + 1, D ++ [e1], d1 + 1, 0, b2, outB P (D ++ [e1]), by omega, rfl, by go_num, by go_num, rfl, rfl, by omega, by omega, hb3, hXl3, HR3, Lib.hid HST.out.symm, HB2, Lib.hid rfl, HC3, ?_, hba⟩
                    have e3 : (outB P (D ++ [e1])).length = X.length + (genV e1 0 b1).length := by rw [HXN.out, List.length_append, List.length_map]
                    rw [e3, HXN.out]
                    exact howna
                  case measure => rw [HG4.out]; omega
                · have hpd : decide ((p : Int) < (m : Int)) = false := decide_eq_false (by omega)
                  have hpN : decide (p < m) = false := decide_eq_false hpm
                  have hne : ((p : Int) == (m : Int)) = false := by rw [beq_eq_false_iff_ne]; omega
                  have hneN : (p == m) = false := by rw [beq_eq_false_iff_ne]; omega
                  have hR3 := hR2.pass hpm hpe
                  rw [← htk] at hR3
                  have HR3 := Lib.hid hR3
                  have HC3 : Hid (d0 < d1 + ((P.drop (k + 1)).filter (fun x => decide (x = m))).length) := by
                    show _ < _
                    rw [List.filter_cons_of_neg (by simpa using hpe)] at hcnt
                    exact hcnt
                  clear hR2 hR3 hcnt hdr htk
                  go_wp2
                  go_roundg (P.length - (k + 1))
                  case rel => exact ⟨k + 1, D, d1, e1, b1, X, by omega, rfl, by go_num, rfl, rfl, rfl, hd1, he1, hb1, hXl, HR3, HD1, HB1, HX, HC3, hown, hb⟩
                  case measure => rw [HG4.out]; omega
            · obtain rfl : k = P.length := by omega
              have hkd : decide ((P.length : Int) < (P.length : Int)) = false := by simp
              have hE2 : EncAt P D (m + 1) (e1 + 1) := by
                have := HR.out
                rw [List.drop_length] at this
                exact this.done
              have he2 := hE2.small (by omega) hl
              have HE2 := Lib.hid hE2
              have hdd : d0 < d1 := by
                have := HCNT.out
                rw [List.drop_length] at this
                exact this
              clear hE2
              go_wp2
              go_roundg (P.length - d1)
              case rel => exact ⟨D, d1, m + 1, e1 + 1, b1, X, rfl, rfl, by go_num, by go_num, rfl, hd1, by omega, he2, hb1, hXl, HE2, HD1, HB1, HX, hown, hb⟩
              case measure => rw [HG.out]; omega
        · have hdl : decide ((d0 : Int) < (P.length : Int)) = false := decide_eq_false (by omega)
          have hfin : encDs P = D := HE.out.fin (by rw [← HD.out]; exact hlt0)
          have HX2 : Hid (X = encB P) := by show _ = _; rw [HX.out, encB, hfin]; rfl
          have hconv := str_owned wr _ _ _ _ hown
          rw [HX2.out] at hconv
          clear hfin
          go_wp2
          go_ret2
          exact ⟨rfl, hb⟩

theorem enc_long (A : Option Addr) (len cap : Nat) (w : World) (hl : 256 < len) :
    Calls Tryz.prog 124 #[.slice A len cap] w fun e w' => e = .returned (.tuple #[.string (bs []), .int .i64 3]) ∧ Below w.heap.size w w' := by
  have hd : decide ((256 : Int) < (len : Int)) = true := decide_eq_true (by omega)
  go_enter Tryz.func124, Tryz.ntmps124
  go_wp2
  go_ret2
  exact ⟨rfl, Below.refl _ _⟩

set_option maxRecDepth 20000 in
set_option maxHeartbeats 4000000 in
theorem enc_bad (Z : List Int) (hZ : ¬ Z.all ptZ = true) (hl : Z.length ≤ 256) (A : Option Addr) (len cap B : Nat) (w : World) (hA : Has w B A len (Z.map zv)) (hB : B ≤ w.heap.size) :
    Calls Tryz.prog 124 #[.slice A len cap] w fun e w' => e = .returned (.tuple #[.string (bs []), .int .i64 2]) ∧ Below w.heap.size w w' := by
  obtain ⟨i5, hi5, hz0, hz1, hz2⟩ := info_parts infoU8
  have hlen : len = Z.length := by have := hA.1; simpa using this.symm
  subst hlen
  have H := Lib.hid hA
  have HZ := Lib.hid hZ
  clear hA hZ
  have hd256 : decide ((256 : Int) < (Z.length : Int)) = false := decide_eq_false (by omega)
  go_enter Tryz.func124, Tryz.ntmps124
  go_wp2
  go_loopw [4, 20] (fun v i wr => ∃ (k : Nat) (O : List UInt8), k ≤ Z.length ∧ i = .int .i64 k ∧ Hid ((Z.take k).all ptZ = true) ∧ O.length ≤ k ∧ wr.ownsRow w.heap.size 5 1 v O.length (O.map bv) ∧ Below w.heap.size w wr) (fun _ i _ => Z.length - (intOf i).toNat)
  case atStart => exact ⟨0, [], Nat.zero_le _, rfl, Lib.hid rfl, by simp, World.ownsRow_nil _ _ _ _, Below.refl _ _⟩
  case round =>
    obtain ⟨k, O, hk, rfl, HALL, hOl, hown, hb⟩ := hrel
    by_cases hlt : k < Z.length
    · obtain ⟨b1, o1, rfl, l1, d1⟩ := H.out.2 (by omega)
      have g1 := cell_zv H.out hb hB k hlt hlt
      have hkd : decide ((k : Int) < (Z.length : Int)) = true := decide_eq_true (by omega)
      have c1 := isPt_any Z[k]
      have htk : Z.take (k + 1) = Z.take k ++ [Z[k]] := List.take_succ_eq_append_getElem hlt
      obtain ⟨z, hz⟩ : ∃ z, z = Z[k] := ⟨_, rfl⟩
      rw [← hz] at g1 c1 htk
      clear d1 hz
      by_cases hpt : ptZ z = true
      · have HALL2 : Hid ((Z.take (k + 1)).all ptZ = true) := by
          show _ = _
          rw [htk, List.all_append, HALL.out]
          simpa using hpt
        have hz01 : 0 ≤ z ∧ z ≤ 1114111 := by
          unfold ptZ at hpt
          simp at hpt
          have := ptN_le hpt.2
          omega
        obtain ⟨hz0', hz1'⟩ := hz01
        rw [hpt] at c1
        clear htk hpt
        by_cases h128 : z < 128
        · have hd : decide (z < 128) = true := decide_eq_true h128
          obtain ⟨p, rfl⟩ : ∃ p : Nat, z = (p : Int) := ⟨z.toNat, by omega⟩
          have HBV := Lib.hid (bv_ofNat (p := p) (by omega))
          go_wp2_with (first | (go_at_call 162; refine (c1 _).mono ?_; rintro e w' ⟨rfl, rfl⟩) | (at_builtin; refine wpList_app_one wr rfl _ _ 40 rfl w.heap.size 5 i5 (.int .u8 0) 1 tyBs hi5 hz0 hz1 hz2 rfl _ (by exact rfl) _ _ _ (by exact rfl) hown (by exact rfl) (by unfold maxLen; omega) (by omega) hb (Nat.le_refl _) ?_; intro v' w' hown' hb' _))
          go_roundw
          case rel =>
            refine ⟨k + 1, O ++ [UInt8.ofNat p], by omega, by go_num, HALL2, by simp; omega, ?_, hb'⟩
            rw [List.map_append, List.length_append]
            simp only [List.map_cons, List.map_nil, HBV.out, List.length_singleton]
            exact hown'
          case measure => simp [intOf]; omega
        · have hd : decide (z < 128) = false := decide_eq_false h128
          go_wp2_with (go_at_call 162; refine (c1 _).mono ?_; rintro e w' ⟨rfl, rfl⟩)
          go_roundw
          case rel => exact ⟨k + 1, O, by omega, by go_num, HALL2, by omega, hown, hb⟩
          case measure => simp [intOf]; omega
      · rw [Bool.not_eq_true] at hpt
        rw [hpt] at c1
        clear htk hpt
        go_wp2_with (go_at_call 162; refine (c1 _).mono ?_; rintro e w' ⟨rfl, rfl⟩)
        go_ret2
        exact ⟨rfl, hb⟩
    · exfalso
      have e : k = Z.length := by omega
      have := HALL.out
      rw [e, List.take_length] at this
      exact HZ.out this

/-- The program's Encode. -/
theorem pE12 : PuEnc 124 := by
  intro Z A len cap B w hin hB _
  have hA := hin.has
  have hlen : len = Z.length := by have := hA.1; simpa using this.symm
  by_cases h1 : 256 < Z.length
  · have e : encL Z = (3, []) := by unfold encL; rw [if_pos h1]
    rw [e]
    exact enc_long A len cap w (by omega)
  · by_cases h2 : Z.all ptZ = true
    · have e : encL Z = (0, encB (Z.map Int.toNat)) := by unfold encL; rw [if_neg h1, if_pos h2]
      obtain ⟨hP, hZ⟩ := all_pt h2
      rw [e]
      refine enc_ok _ hP (by rw [List.length_map]; omega) A len cap B w ?_ hB
      rw [iv_zv, hZ]
      exact hA
    · have e : encL Z = (2, []) := by unfold encL; rw [if_neg h1, if_neg h2]
      rw [e]
      exact enc_bad Z h2 (by omega) A len cap B w hA hB
end

end Go.Proofs.YtpccpgihldpiiaaGreatDoor
