/-
  Contracts of Trim, of package ascii and of its reference.
-/
import Derived.Test.YtibimijpkmddeaaAsc3
import Derived.Lib.LazyBuf
namespace Go.Proofs.Ytibimijpkmddeaa
open Go.RowKit

theorem setRow_alloc_new (w : World) (cs cs' : Array Value) (e : TypeId) : (w.alloc (.cells cs e)).setRow w.heap.size cs' = w.alloc (.cells cs' e) := by
  unfold World.setRow World.alloc
  congr 1
  apply Array.ext_getElem?
  intro k
  simp only [Array.getElem?_modify, Array.getElem?_push]
  by_cases hk : k = w.heap.size
  · subst hk
    simp
  · simp [hk]
    intro h
    omega

/-- copy(b, s) into a row that was just made for it. -/
theorem copy_new (w : World) (ty : TypeId) (n : Nat) (t : ByteArray) (ht : t.size = n) :
    (Builtin.copy_ #[31, 9] ty #[.slice (some ⟨w.heap.size, 0, none⟩) n n, .string t]).run Try.prog (w.alloc (.cells (zeros n) 5)) =
      .ok (goInt n) (w.alloc (.cells (fillRow (ls t) n n) 5)) := by
  subst ht
  have hl : ((ls t).map bv).length = t.size := by rw [List.length_map, ls_length]
  have hst := run_storeCells_at Try.prog w.heap.size 0 5 ((ls t).map bv) 0 (zeros t.size) (w.alloc (.cells (zeros t.size) 5)) (heap_alloc_new w _) (by rw [hl]; simp [zeros]) (by
    intro v hv
    obtain ⟨x, _, rfl⟩ := List.mem_map.1 hv
    rfl)
  have hsz : ∀ w, (Go.sizeOf 5).run Try.prog w = .ok 1 w := by
    obtain ⟨i, hi, _, hz1, _⟩ := info_parts infoU8
    intro w
    simp [Go.sizeOf, typeInfo, hi, hz1]
  have hrow : ((zeros t.size).toList.take (0 + 0) ++ (ls t).map bv ++ (zeros t.size).toList.drop (0 + 0 + ((ls t).map bv).length)).toArray = fillRow (ls t) t.size t.size := by
    rw [hl]
    simp [zeros, fillRow, ← ls_length t]
  rw [hrow, setRow_alloc_new] at hst
  have hmap : (t.data.toList.map fun x => Value.int .u8 (x.toNat : Int)) = (ls t).map bv := rfl
  simp [Builtin.copy_, run_underlying tyBs, Builtin.lenOf, Builtin.firstCells, hsz]
  rw [hmap, List.take_of_length_le (by rw [hl]; exact Nat.le_refl _), hst]
  rfl

theorem wpList_make_bytes (w : World) {ops : Array Oper} {rest : List Oper} {o : Oper} {a : Act} {Q : Exit → Act → World → Prop}
    (hg : o.guard = none) (l c : Operand) (hop : o.op = Op.makeSlice 31 l c) (L C : Int) (hl : a.eval l = .int .i64 L) (hc : a.eval c = .int .i64 C)
    (n : Nat) (hL : L = (n : Int)) (hC : C = (n : Int)) (hn : n ≤ 281474976710656)
    (hK : wpList Try.prog ops Q rest (a.put o.dst (.slice (some ⟨w.heap.size, 0, none⟩) n n)) (w.alloc (.cells (zeros n) 5))) : wpList Try.prog ops Q (o :: rest) a w := by
  refine wpList_plain hg fun K hK' => ?_
  have hrun := mk_bytes w n hn
  subst hL
  subst hC
  unfold Oper.wp
  simp [execOp, hop, hl, hc, hrun, Result.andThen]
  exact hK' _ _ hK

set_option maxHeartbeats 1000000 in
theorem trim_any (s : ByteArray) (w : World) (hs : s.size ≤ 1000000000) :
    Calls Try.prog 19 #[.string s] w fun e w' => e = .returned (.string (trimS s)) ∧ Below w.heap.size w w' := by
  go_enter Try.func19, Try.ntmps19
  go_wp2
  go_loop [3] (fun i => ∃ k : Nat, k ≤ s.size ∧ i = .int .i64 k ∧ ((ls s).take k).all blankU = true) (fun i => s.size - (intOf i).toNat)
  case atStart => exact ⟨0, Nat.zero_le _, rfl, rfl⟩
  case round =>
    obtain ⟨k, hk, rfl, hall⟩ := hrel
    have HA := Lib.hid hall
    clear hall
    by_cases hc : ∃ h : k < s.size, blankU s[k] = true
    · obtain ⟨hlt, hd⟩ := hc
      have hd' : blankB (s[k].toNat : Int) = true := hd
      have HD := Lib.hid hd
      clear hd
      go_wp2_with (go_at_call 9; refine (isBlank_any _ _).mono ?_; rintro e w' ⟨rfl, rfl⟩)
      go_round
      case rel => exact ⟨k + 1, by omega, by go_num, take_all_succ blankU s k hlt HA.out HD.out⟩
      case measure => simp [intOf]; omega
    · have HX : Hid (k = s.size ∨ ∃ h : k < s.size, blankU s[k] = false) := by
        by_cases h : k < s.size
        · exact .inr ⟨h, by cases hb : blankU s[k] with | false => rfl | true => exact absurd ⟨h, hb⟩ hc⟩
        · exact .inl (by omega)
      by_cases hlt : k < s.size
      · have hb' : blankB (s[k].toNat : Int) = false := by
          cases hb : blankU s[k] with
          | false => exact hb
          | true => exact absurd ⟨hlt, hb⟩ hc
        clear hc
        go_wp2_with (go_at_call 9; refine (isBlank_any _ _).mono ?_; rintro e w' ⟨rfl, rfl⟩)
        go_loop [4] (fun j => ∃ m : Nat, k ≤ m ∧ m ≤ s.size ∧ j = .int .i64 m ∧ ((ls s).drop m).all blankU = true) (fun j => (intOf j).toNat)
        case atStart => exact ⟨s.size, hk, Nat.le_refl _, rfl, by rw [drop_ls_all]; rfl⟩
        case round =>
          obtain ⟨m, hkm, hm, rfl, hdr⟩ := hrel
          have HD := Lib.hid hdr
          clear hdr
          by_cases hc2 : ∃ h : m - 1 < s.size, k < m ∧ blankU s[m - 1] = true
          · obtain ⟨hlt2, hkm2, hbl⟩ := hc2
            obtain ⟨q, rfl⟩ : ∃ q, m = q + 1 := ⟨m - 1, by omega⟩
            have hlt3 : q < s.size := by omega
            have hbl' : blankB (s[q].toNat : Int) = true := hbl
            have HB : Hid (blankU s[q] = true) := hbl
            clear hbl
            go_wp2_with (go_at_call 9; refine (isBlank_any _ _).mono ?_; rintro e w' ⟨rfl, rfl⟩)
            go_round
            case rel => exact ⟨q, by omega, by omega, by go_num, drop_all_succ blankU s q hlt3 HD.out HB.out⟩
            case measure => simp [intOf]
          · have HY : Hid (k = m ∨ ∃ h : m - 1 < s.size, blankU s[m - 1] = false) := by
              by_cases h : k < m
              · refine .inr ⟨by omega, ?_⟩
                cases hb : blankU (s[m - 1]'(by omega)) with
                | false => rfl
                | true => exact absurd ⟨by omega, h, hb⟩ hc2
              · exact .inl (by omega)
            have HX2 : Hid (k = m ∨ ∃ h : k < s.size, blankU s[k] = false) := by
              rcases HX.out with h | h
              · exact .inl (by omega)
              · exact .inr h
            have HT := Lib.hid (trimS_of s k m hkm hm HA.out HD.out HX2.out HY.out)
            by_cases hlt2 : k < m
            · have hbl' : blankB ((s[m - 1]'(by omega)).toNat : Int) = false := by
                rcases HY.out with h | ⟨h, hb⟩
                · omega
                · exact hb
              obtain ⟨q, rfl⟩ : ∃ q, m = q + 1 := ⟨m - 1, by omega⟩
              have hbl2 : blankB ((s[q]'(by omega)).toNat : Int) = false := hbl'
              clear hbl' hc2
              have hsz : (s.extract k (q + 1)).size = (q + 1 - k) := by simp; omega
              have hcp := copy_new w 3 ((q + 1 - k)) (s.extract k ((q + 1))) hsz
              have hcv := str_bytes (w.alloc (.cells (fillRow (ls (s.extract k ((q + 1)))) ((q + 1 - k)) ((q + 1 - k))) 5)) w.heap.size 0 ((q + 1 - k)) ((q + 1 - k)) (ls (s.extract k ((q + 1)))) (by rw [ls_length, hsz]) (by
                intro j hj
                rw [World.cell?_alloc_at _ _ _ _ rfl, Nat.zero_add]
                exact fillRow_all _ _ _ (by rw [ls_length, hsz]) hj)
              have HE : Hid (bs (ls (s.extract k ((q + 1)))) = trimS s) := by
                show _ = _
                rw [HT.out, ls_extract]
              clear hsz
              go_wp2_with (first | (at_make; refine wpList_make_bytes _ rfl _ _ rfl _ _ (by exact rfl) (by exact rfl) (q + 1 - k) (by omega) (by omega) (by omega) ?_) | (go_at_call 9; refine (isBlank_any _ _).mono ?_; rintro e w' ⟨rfl, rfl⟩))
              go_ret
              exact ⟨ret_str HE.out, (Below.refl _ _).alloc (Nat.le_refl _) _⟩
            · clear hc2
              obtain rfl : k = m := by omega
              have hsz : ByteArray.empty.size = 0 := rfl
              have hcp := copy_new w 3 (0) ByteArray.empty hsz
              have hcv := str_bytes (w.alloc (.cells (fillRow (ls ByteArray.empty) (0) (0)) 5)) w.heap.size 0 (0) (0) (ls ByteArray.empty) (by rw [ls_length, hsz]) (by
                intro j hj
                rw [World.cell?_alloc_at _ _ _ _ rfl, Nat.zero_add]
                exact fillRow_all _ _ _ (by rw [ls_length, hsz]) hj)
              have HE : Hid (bs (ls ByteArray.empty) = trimS s) := by
                show _ = _
                rw [HT.out, Nat.sub_self]; rfl
              clear hsz
              go_wp2_with (at_make; refine wpList_make_bytes _ rfl _ _ rfl _ _ (by exact rfl) (by exact rfl) 0 (by omega) (by omega) (by omega) ?_)
              go_ret
              exact ⟨ret_str HE.out, (Below.refl _ _).alloc (Nat.le_refl _) _⟩
      · clear hc
        go_wp2
        go_loop [4] (fun j => ∃ m : Nat, k ≤ m ∧ m ≤ s.size ∧ j = .int .i64 m ∧ ((ls s).drop m).all blankU = true) (fun j => (intOf j).toNat)
        case atStart => exact ⟨s.size, hk, Nat.le_refl _, rfl, by rw [drop_ls_all]; rfl⟩
        case round =>
          obtain ⟨m, hkm, hm, rfl, hdr⟩ := hrel
          have HD := Lib.hid hdr
          clear hdr
          by_cases hc2 : ∃ h : m - 1 < s.size, k < m ∧ blankU s[m - 1] = true
          · obtain ⟨hlt2, hkm2, hbl⟩ := hc2
            omega
          · have HY : Hid (k = m ∨ ∃ h : m - 1 < s.size, blankU s[m - 1] = false) := by
              by_cases h : k < m
              · refine .inr ⟨by omega, ?_⟩
                cases hb : blankU (s[m - 1]'(by omega)) with
                | false => rfl
                | true => exact absurd ⟨by omega, h, hb⟩ hc2
              · exact .inl (by omega)
            have HX2 : Hid (k = m ∨ ∃ h : k < s.size, blankU s[k] = false) := by
              rcases HX.out with h | h
              · exact .inl (by omega)
              · exact .inr h
            have HT := Lib.hid (trimS_of s k m hkm hm HA.out HD.out HX2.out HY.out)
            by_cases hlt2 : k < m
            · omega
            · clear hc2
              obtain rfl : k = m := by omega
              have hsz : ByteArray.empty.size = 0 := rfl
              have hcp := copy_new w 3 (0) ByteArray.empty hsz
              have hcv := str_bytes (w.alloc (.cells (fillRow (ls ByteArray.empty) (0) (0)) 5)) w.heap.size 0 (0) (0) (ls ByteArray.empty) (by rw [ls_length, hsz]) (by
                intro j hj
                rw [World.cell?_alloc_at _ _ _ _ rfl, Nat.zero_add]
                exact fillRow_all _ _ _ (by rw [ls_length, hsz]) hj)
              have HE : Hid (bs (ls ByteArray.empty) = trimS s) := by
                show _ = _
                rw [HT.out, Nat.sub_self]; rfl
              clear hsz
              go_wp2_with (at_make; refine wpList_make_bytes _ rfl _ _ rfl _ _ (by exact rfl) (by exact rfl) 0 (by omega) (by omega) (by omega) ?_)
              go_ret
              exact ⟨ret_str HE.out, (Below.refl _ _).alloc (Nat.le_refl _) _⟩

def strSize : Value → Nat | .string s => s.size | _ => 0

theorem all_append_one (p : UInt8 → Bool) (a : List UInt8) (x : UInt8) (ha : a.all p = true) (hx : p x = true) : (a ++ [x]).all p = true := by
  rw [List.all_append, ha]; simp [hx]

theorem str_cut_front (t : ByteArray) (h : 0 < t.size) : ls t = t[0] :: ls (t.extract 1 t.size) := by
  rw [ls_extract, ← ls_length, List.take_of_length_le (by simp)]
  have := drop_ls_cons t 0 h
  simpa using this
theorem str_cut_end (u : ByteArray) (q : Nat) (hq : u.size = q + 1) (hb : blankU (u[q]'(by omega)) = true) : ls u = ls (u.extract 0 q) ++ [u[q]'(by omega)] ∧ blankU (u[q]'(by omega)) = true := by
  refine ⟨?_, hb⟩
  have := take_ls_succ u q (by omega)
  rw [← hq, take_ls_all] at this
  rw [ls_extract]
  simpa using this
theorem trim_end {q : Nat} (s t u : ByteArray) (pre post : List UInt8) (h1 : ls s = pre ++ ls t) (h2 : ls t = ls u ++ post) (hp : pre.all blankU = true) (hq : post.all blankU = true)
    (hx : t.size = 0 ∨ ∃ h : 0 < t.size, blankU t[0] = false) (hy : u.size = 0 ∨ ∃ (h : q < u.size), u.size = q + 1 ∧ blankU u[q] = false) : u = trimS s := by
  apply ls_inj
  unfold trimS
  rw [ls_bs]
  refine (trim_of (ls s) pre (ls u) post (by rw [h1, h2, List.append_assoc]) hp hq ?_ ?_).symm
  · rcases Nat.eq_zero_or_pos u.size with h0 | h0
    · left; exact List.eq_nil_of_length_eq_zero (by rw [ls_length]; exact h0)
    · right
      rcases hx with hx | ⟨hx, hb⟩
      · have := congrArg List.length h2
        rw [List.length_append, ls_length, ls_length] at this
        omega
      · have e := str_cut_front u h0
        have e2 := str_cut_front t hx
        rw [e2, e] at h2
        have : t[0] = u[0] := by simpa using (List.cons.inj h2).1
        exact ⟨u[0], _, e, by rw [← this]; exact hb⟩
  · rcases hy with h0 | ⟨h, hq1, hb⟩
    · left; exact List.eq_nil_of_length_eq_zero (by rw [ls_length]; exact h0)
    · right
      have := take_ls_succ u q (by omega)
      rw [← hq1, take_ls_all] at this
      exact ⟨u[q], _, this, hb⟩

set_option maxHeartbeats 1000000 in
theorem refTrim_any (s : ByteArray) (w : World) (hs : s.size ≤ 1000000000) :
    Calls Try.prog 20 #[.string s] w fun e w' => e = .returned (.string (trimS s)) ∧ w = w' := by
  go_enter Try.func20, Try.ntmps20
  go_wp2
  go_loop [0] (fun v => ∃ (t : ByteArray) (pre : List UInt8), v = .string t ∧ ls s = pre ++ ls t ∧ pre.all blankU = true ∧ t.size ≤ 1000000000) (fun v => strSize v)
  case atStart => exact ⟨s, [], rfl, rfl, rfl, hs⟩
  case round =>
    obtain ⟨t, pre, rfl, hsp, hpre, hts⟩ := hrel
    have HS := Lib.hid hsp
    have HP := Lib.hid hpre
    clear hsp hpre
    by_cases h0 : 0 < t.size
    · by_cases hb : blankU t[0] = true
      · have hb' : blankB (t[0].toNat : Int) = true := hb
        have HB := Lib.hid hb
        clear hb
        go_wp2_with (go_at_call 10; refine (refIsBlank_any _ _).mono ?_; rintro e w' ⟨rfl, rfl⟩)
        go_round
        case rel => exact ⟨_, pre ++ [t[0]], rfl, by rw [HS.out, str_cut_front t h0]; simp, all_append_one _ _ _ HP.out HB.out, by simp; omega⟩
        case measure => simp [strSize]; omega
      · have hb' : blankB (t[0].toNat : Int) = false := by simpa [blankU] using hb
        have HX : Hid (t.size = 0 ∨ ∃ h : 0 < t.size, blankU t[0] = false) := .inr ⟨h0, by simpa using hb⟩
        clear hb
        go_wp2_with (go_at_call 10; refine (refIsBlank_any _ _).mono ?_; rintro e w' ⟨rfl, rfl⟩)
        go_loop [0] (fun v => ∃ (u : ByteArray) (post : List UInt8), v = .string u ∧ ls t = ls u ++ post ∧ post.all blankU = true ∧ u.size ≤ 1000000000) (fun v => strSize v)
        case atStart => exact ⟨t, [], rfl, by simp, rfl, hts⟩
        case round =>
          obtain ⟨u, post, rfl, hup, hpost, hus⟩ := hrel
          have HU := Lib.hid hup
          have HQ := Lib.hid hpost
          clear hup hpost
          by_cases hu0 : 0 < u.size
          · obtain ⟨q, hq⟩ : ∃ q, u.size = q + 1 := ⟨u.size - 1, by omega⟩
            have hqu : q < u.size := by omega
            by_cases hbu : blankU u[q] = true
            · have hbu' : blankB (u[q].toNat : Int) = true := hbu
              have HB := Lib.hid (str_cut_end u q hq hbu)
              clear hbu
              go_wp2_with (go_at_call 10; refine (refIsBlank_any _ _).mono ?_; rintro e w' ⟨rfl, rfl⟩)
              go_round
              case rel => exact ⟨_, u[q] :: post, rfl, by rw [HU.out, HB.out.1]; simp, by rw [List.all_cons, HB.out.2, HQ.out]; rfl, by simp; omega⟩
              case measure => simp [strSize]; omega
            · have hbu' : blankB (u[q].toNat : Int) = false := by simpa [blankU] using hbu
              have HF := Lib.hid (trim_end s t u pre post HS.out HU.out HP.out HQ.out HX.out (.inr ⟨hqu, hq, by simpa using hbu⟩))
              clear hbu
              go_wp2_with (go_at_call 10; refine (refIsBlank_any _ _).mono ?_; rintro e w' ⟨rfl, rfl⟩)
              go_ret
              exact ⟨ret_str HF.out, rfl⟩
          · have HF := Lib.hid (trim_end (q := 0) s t u pre post HS.out HU.out HP.out HQ.out HX.out (.inl (by omega)))
            have hu1 : u.size = 0 := by omega
            go_wp2
            go_ret
            exact ⟨ret_str HF.out, rfl⟩
    · have HX : Hid (t.size = 0 ∨ ∃ h : 0 < t.size, blankU t[0] = false) := .inl (by omega)
      go_wp2
      go_loop [0] (fun v => ∃ (u : ByteArray) (post : List UInt8), v = .string u ∧ ls t = ls u ++ post ∧ post.all blankU = true ∧ u.size ≤ 1000000000) (fun v => strSize v)
      case atStart => exact ⟨t, [], rfl, by simp, rfl, hts⟩
      case round =>
        obtain ⟨u, post, rfl, hup, hpost, hus⟩ := hrel
        have HU := Lib.hid hup
        have HQ := Lib.hid hpost
        clear hup hpost
        by_cases hu0 : 0 < u.size
        · obtain ⟨q, hq⟩ : ∃ q, u.size = q + 1 := ⟨u.size - 1, by omega⟩
          have hqu : q < u.size := by omega
          by_cases hbu : blankU u[q] = true
          · have hbu' : blankB (u[q].toNat : Int) = true := hbu
            have HB := Lib.hid (str_cut_end u q hq hbu)
            clear hbu
            go_wp2_with (go_at_call 10; refine (refIsBlank_any _ _).mono ?_; rintro e w' ⟨rfl, rfl⟩)
            go_round
            case rel => exact ⟨_, u[q] :: post, rfl, by rw [HU.out, HB.out.1]; simp, by rw [List.all_cons, HB.out.2, HQ.out]; rfl, by simp; omega⟩
            case measure => simp [strSize]; omega
          · have hbu' : blankB (u[q].toNat : Int) = false := by simpa [blankU] using hbu
            have HF := Lib.hid (trim_end s t u pre post HS.out HU.out HP.out HQ.out HX.out (.inr ⟨hqu, hq, by simpa using hbu⟩))
            clear hbu
            go_wp2_with (go_at_call 10; refine (refIsBlank_any _ _).mono ?_; rintro e w' ⟨rfl, rfl⟩)
            go_ret
            exact ⟨ret_str HF.out, rfl⟩
        · have HF := Lib.hid (trim_end (q := 0) s t u pre post HS.out HU.out HP.out HQ.out HX.out (.inl (by omega)))
          have hu1 : u.size = 0 := by omega
          go_wp2
          go_ret
          exact ⟨ret_str HF.out, rfl⟩

end Go.Proofs.Ytibimijpkmddeaa
