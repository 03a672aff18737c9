/-
  Contract of Trim of package ascii.
-/
import Derived.Test.YtmfoegpdjajicaaAsL
import Derived.Test.YtmfoegpdjajicaaAsB
import Derived.Lib.LazyBuf
import Derived.BigQuiet
import Derived.Deep.QuietTactic
import Derived.WalkSmall
namespace Go.Proofs.Ytmfoegpdjajicaa
open Go.RowKit

theorem setRow_alloc_new (w : World) (cs cs' : Array Value) (e : TypeId) : (w.alloc (.cells cs e)).setRow w.heap.size cs' = w.alloc (.cells cs' e) := by
  unfold World.setRow World.alloc
  congr 1
  apply Array.ext_getElem?
  intro k
  simp only [Array.getElem?_modify, Array.getElem?_push]
  by_cases hk : k = w.heap.size
  · subst hk
    simp
  · simp [hk]
    intro h
    omega

/-- copy(b, s) into a row that was just made for it. -/
theorem copy_new (w : World) (ty : TypeId) (n : Nat) (t : ByteArray) (ht : t.size = n) :
    (Builtin.copy_ #[22, 9] ty #[.slice (some ⟨w.heap.size, 0, none⟩) n n, .string t]).run Try.prog (w.alloc (.cells (zeros n) 5)) =
      .ok (goInt n) (w.alloc (.cells (fillRow (ls t) n n) 5)) := by
  subst ht
  have hl : ((ls t).map bv).length = t.size := by rw [List.length_map, ls_length]
  have hst := run_storeCells_at Try.prog w.heap.size 0 5 ((ls t).map bv) 0 (zeros t.size) (w.alloc (.cells (zeros t.size) 5)) (heap_alloc_new w _) (by rw [hl]; simp [zeros]) (by
    intro v hv
    obtain ⟨x, _, rfl⟩ := List.mem_map.1 hv
    rfl)
  have hsz : ∀ w, (Go.sizeOf 5).run Try.prog w = .ok 1 w := by
    obtain ⟨i, hi, _, hz1, _⟩ := info_parts infoU8
    intro w
    simp [Go.sizeOf, typeInfo, hi, hz1]
  have hrow : ((zeros t.size).toList.take (0 + 0) ++ (ls t).map bv ++ (zeros t.size).toList.drop (0 + 0 + ((ls t).map bv).length)).toArray = fillRow (ls t) t.size t.size := by
    rw [hl]
    simp [zeros, fillRow, ← ls_length t]
  rw [hrow, setRow_alloc_new] at hst
  have hmap : (t.data.toList.map fun x => Value.int .u8 (x.toNat : Int)) = (ls t).map bv := rfl
  simp [Builtin.copy_, run_underlying tyBs, Builtin.lenOf, Builtin.firstCells, hsz]
  rw [hmap, List.take_of_length_le (by rw [hl]; exact Nat.le_refl _), hst]
  rfl

theorem wpList_make_bytes (w : World) {ops : Array Oper} {rest : List Oper} {o : Oper} {a : Act} {Q : Exit → Act → World → Prop}
    (hg : o.guard = none) (l c : Operand) (hop : o.op = Op.makeSlice 22 l c) (L C : Int) (hl : a.eval l = .int .i64 L) (hc : a.eval c = .int .i64 C)
    (n : Nat) (hL : L = (n : Int)) (hC : C = (n : Int)) (hn : n ≤ 281474976710656)
    (hK : wpList Try.prog ops Q rest (a.put o.dst (.slice (some ⟨w.heap.size, 0, none⟩) n n)) (w.alloc (.cells (zeros n) 5))) : wpList Try.prog ops Q (o :: rest) a w := by
  refine wpList_plain hg fun K hK' => ?_
  have hrun := mk_bytes w n hn
  subst hL
  subst hC
  unfold Oper.wp
  simp [execOp, hop, hl, hc, hrun, Result.andThen]
  exact hK' _ _ hK

set_option maxHeartbeats 1000000 in
theorem trim_any (s : ByteArray) (w : World) (hs : s.size ≤ 1000000000) :
    Calls Try.prog 43 #[.string s] w fun e w' => e = .returned (.string (trimS s)) ∧ Below w.heap.size w w' := by
  go_enter Try.func43, Try.ntmps43
  go_wp2
  go_loop [3] (fun i => ∃ k : Nat, k ≤ s.size ∧ i = .int .i64 k ∧ ((ls s).take k).all blankU = true) (fun i => s.size - (intOf i).toNat)
  case atStart => exact ⟨0, Nat.zero_le _, rfl, rfl⟩
  case round =>
    obtain ⟨k, hk, rfl, hall⟩ := hrel
    have HA := Lib.hid hall
    clear hall
    by_cases hc : ∃ h : k < s.size, blankU s[k] = true
    · obtain ⟨hlt, hd⟩ := hc
      have hd' : blankB (s[k].toNat : Int) = true := hd
      have HD := Lib.hid hd
      clear hd
      go_wp2_with (go_at_call 55; refine (isBlank_any _ _).mono ?_; rintro e w' ⟨rfl, rfl⟩)
      go_round
      case rel => exact ⟨k + 1, by omega, by go_num, take_all_succ blankU s k hlt HA.out HD.out⟩
      case measure => simp [intOf]; omega
    · have HX : Hid (k = s.size ∨ ∃ h : k < s.size, blankU s[k] = false) := by
        by_cases h : k < s.size
        · exact .inr ⟨h, by cases hb : blankU s[k] with | false => rfl | true => exact absurd ⟨h, hb⟩ hc⟩
        · exact .inl (by omega)
      by_cases hlt : k < s.size
      · have hb' : blankB (s[k].toNat : Int) = false := by
          cases hb : blankU s[k] with
          | false => exact hb
          | true => exact absurd ⟨hlt, hb⟩ hc
        clear hc
        go_wp2_with (go_at_call 55; refine (isBlank_any _ _).mono ?_; rintro e w' ⟨rfl, rfl⟩)
        go_loop [4] (fun j => ∃ m : Nat, k ≤ m ∧ m ≤ s.size ∧ j = .int .i64 m ∧ ((ls s).drop m).all blankU = true) (fun j => (intOf j).toNat)
        case atStart => exact ⟨s.size, hk, Nat.le_refl _, rfl, by rw [drop_ls_all]; rfl⟩
        case round =>
          obtain ⟨m, hkm, hm, rfl, hdr⟩ := hrel
          have HD := Lib.hid hdr
          clear hdr
          by_cases hc2 : ∃ h : m - 1 < s.size, k < m ∧ blankU s[m - 1] = true
          · obtain ⟨hlt2, hkm2, hbl⟩ := hc2
            obtain ⟨q, rfl⟩ : ∃ q, m = q + 1 := ⟨m - 1, by omega⟩
            have hlt3 : q < s.size := by omega
            have hbl' : blankB (s[q].toNat : Int) = true := hbl
            have HB : Hid (blankU s[q] = true) := hbl
            clear hbl
            go_wp2_with (go_at_call 55; refine (isBlank_any _ _).mono ?_; rintro e w' ⟨rfl, rfl⟩)
            go_round
            case rel => exact ⟨q, by omega, by omega, by go_num, drop_all_succ blankU s q hlt3 HD.out HB.out⟩
            case measure => simp [intOf]
          · have HY : Hid (k = m ∨ ∃ h : m - 1 < s.size, blankU s[m - 1] = false) := by
              by_cases h : k < m
              · refine .inr ⟨by omega, ?_⟩
                cases hb : blankU (s[m - 1]'(by omega)) with
                | false => rfl
                | true => exact absurd ⟨by omega, h, hb⟩ hc2
              · exact .inl (by omega)
            have HX2 : Hid (k = m ∨ ∃ h : k < s.size, blankU s[k] = false) := by
              rcases HX.out with h | h
              · exact .inl (by omega)
              · exact .inr h
            have HT := Lib.hid (trimS_of s k m hkm hm HA.out HD.out HX2.out HY.out)
            by_cases hlt2 : k < m
            · have hbl' : blankB ((s[m - 1]'(by omega)).toNat : Int) = false := by
                rcases HY.out with h | ⟨h, hb⟩
                · omega
                · exact hb
              obtain ⟨q, rfl⟩ : ∃ q, m = q + 1 := ⟨m - 1, by omega⟩
              have hbl2 : blankB ((s[q]'(by omega)).toNat : Int) = false := hbl'
              clear hbl' hc2
              have hsz : (s.extract k (q + 1)).size = (q + 1 - k) := by simp; omega
              have hcp := copy_new w 3 ((q + 1 - k)) (s.extract k ((q + 1))) hsz
              have hcv := str_bytes (w.alloc (.cells (fillRow (ls (s.extract k ((q + 1)))) ((q + 1 - k)) ((q + 1 - k))) 5)) w.heap.size 0 ((q + 1 - k)) ((q + 1 - k)) (ls (s.extract k ((q + 1)))) (by rw [ls_length, hsz]) (by
                intro j hj
                rw [World.cell?_alloc_at _ _ _ _ rfl, Nat.zero_add]
                exact fillRow_all _ _ _ (by rw [ls_length, hsz]) hj)
              have HE : Hid (bs (ls (s.extract k ((q + 1)))) = trimS s) := by
                show _ = _
                rw [HT.out, ls_extract]
              clear hsz
              go_wp2_with (first | (at_make; refine wpList_make_bytes _ rfl _ _ rfl _ _ (by exact rfl) (by exact rfl) (q + 1 - k) (by omega) (by omega) (by omega) ?_) | (go_at_call 55; refine (isBlank_any _ _).mono ?_; rintro e w' ⟨rfl, rfl⟩))
              go_ret
              exact ⟨ret_str HE.out, (Below.refl _ _).alloc (Nat.le_refl _) _⟩
            · clear hc2
              obtain rfl : k = m := by omega
              have hsz : ByteArray.empty.size = 0 := rfl
              have hcp := copy_new w 3 (0) ByteArray.empty hsz
              have hcv := str_bytes (w.alloc (.cells (fillRow (ls ByteArray.empty) (0) (0)) 5)) w.heap.size 0 (0) (0) (ls ByteArray.empty) (by rw [ls_length, hsz]) (by
                intro j hj
                rw [World.cell?_alloc_at _ _ _ _ rfl, Nat.zero_add]
                exact fillRow_all _ _ _ (by rw [ls_length, hsz]) hj)
              have HE : Hid (bs (ls ByteArray.empty) = trimS s) := by
                show _ = _
                rw [HT.out, Nat.sub_self]; rfl
              clear hsz
              go_wp2_with (at_make; refine wpList_make_bytes _ rfl _ _ rfl _ _ (by exact rfl) (by exact rfl) 0 (by omega) (by omega) (by omega) ?_)
              go_ret
              exact ⟨ret_str HE.out, (Below.refl _ _).alloc (Nat.le_refl _) _⟩
      · clear hc
        go_wp2
        go_loop [4] (fun j => ∃ m : Nat, k ≤ m ∧ m ≤ s.size ∧ j = .int .i64 m ∧ ((ls s).drop m).all blankU = true) (fun j => (intOf j).toNat)
        case atStart => exact ⟨s.size, hk, Nat.le_refl _, rfl, by rw [drop_ls_all]; rfl⟩
        case round =>
          obtain ⟨m, hkm, hm, rfl, hdr⟩ := hrel
          have HD := Lib.hid hdr
          clear hdr
          by_cases hc2 : ∃ h : m - 1 < s.size, k < m ∧ blankU s[m - 1] = true
          · obtain ⟨hlt2, hkm2, hbl⟩ := hc2
            omega
          · have HY : Hid (k = m ∨ ∃ h : m - 1 < s.size, blankU s[m - 1] = false) := by
              by_cases h : k < m
              · refine .inr ⟨by omega, ?_⟩
                cases hb : blankU (s[m - 1]'(by omega)) with
                | false => rfl
                | true => exact absurd ⟨by omega, h, hb⟩ hc2
              · exact .inl (by omega)
            have HX2 : Hid (k = m ∨ ∃ h : k < s.size, blankU s[k] = false) := by
              rcases HX.out with h | h
              · exact .inl (by omega)
              · exact .inr h
            have HT := Lib.hid (trimS_of s k m hkm hm HA.out HD.out HX2.out HY.out)
            by_cases hlt2 : k < m
            · omega
            · clear hc2
              obtain rfl : k = m := by omega
              have hsz : ByteArray.empty.size = 0 := rfl
              have hcp := copy_new w 3 (0) ByteArray.empty hsz
              have hcv := str_bytes (w.alloc (.cells (fillRow (ls ByteArray.empty) (0) (0)) 5)) w.heap.size 0 (0) (0) (ls ByteArray.empty) (by rw [ls_length, hsz]) (by
                intro j hj
                rw [World.cell?_alloc_at _ _ _ _ rfl, Nat.zero_add]
                exact fillRow_all _ _ _ (by rw [ls_length, hsz]) hj)
              have HE : Hid (bs (ls ByteArray.empty) = trimS s) := by
                show _ = _
                rw [HT.out, Nat.sub_self]; rfl
              clear hsz
              go_wp2_with (at_make; refine wpList_make_bytes _ rfl _ _ rfl _ _ (by exact rfl) (by exact rfl) 0 (by omega) (by omega) (by omega) ?_)
              go_ret
              exact ⟨ret_str HE.out, (Below.refl _ _).alloc (Nat.le_refl _) _⟩

end Go.Proofs.Ytmfoegpdjajicaa
