/-
  The program's inValue and parseLine of package fields.
-/
import Derived.Test.YtmfoegpdjajicaaFdM
import Derived.Test.YtmfoegpdjajicaaFeP
import Derived.Test.YtmfoegpdjajicaaCt2
import Derived.Test.YtmfoegpdjajicaaQtK
import Derived.Test.YtmfoegpdjajicaaAsT
namespace Go.Proofs.Ytmfoegpdjajicaa
open Go.RowKit

theorem ret_fd {fn : Func} {R : Ending → World → Prop} {a : Act} {w : World} (p u : Tmp) (hres : fn.results = #[.cell p 44, .tmp u]) (b : Nat) (hp : a.tmps.getD p undef = .pointer (some ⟨b, 0, none⟩))
    (n x : ByteArray) (hrow : RowFd w b n x) (v : Value) (hv : a.tmps.getD u undef = v) (hd : a.defers = []) (hR : R (.returned (.tuple #[.agg #[.string n, .string x], v])) w) : bodyPost Try.prog fn R .ret a w := by
  refine bodyPost_ret (v := .tuple #[.agg #[.string n, .string x], v]) ?_ hd hR
  rw [results_cell_tmp hres, hp, hv]
  simp [asAddr, Result.andThen, load_fd hrow]
theorem below_of_grown {w w' : World} (h : w.grownBy w' none) : Below w.heap.size w w' := ⟨h.os, h.tape, h.output, h.size, fun k hk => h.block k hk (by simp)⟩

set_option maxHeartbeats 400000 in
theorem fInValue_any (b : Int) (w : World) : Calls Try.prog 41 #[.int .u8 b] w fun e w' => e = .returned (.bool (inV b)) ∧ w = w' := by
  go_enter Try.func41, Try.ntmps41
  go_wp2
  all_goals
    go_ret
    exact ⟨ret_bool (by first | (simp [inV, *]; done) | (simp [inV, *]; omega) | (rw [Bool.eq_iff_iff]; simp at *; simp [inV]; omega)), rfl⟩

/-- What parseLine answers. -/
def flV (l : List UInt8) : Fv := (fieldL l).getD ⟨[], []⟩
def FlPost (l : List UInt8) (w : World) (e : Ending) (w' : World) : Prop :=
  e = .returned (.tuple #[.agg #[.string (bs (flV l).name), .string (bs (flV l).value)], .bool (fieldL l).isSome]) ∧ Below w.heap.size w w'
theorem fl_no {l : List UInt8} {w w' : World} (h : fieldL l = none) (hb : Below w.heap.size w w') : FlPost l w (.returned (.tuple #[.agg #[.string ⟨#[]⟩, .string ⟨#[]⟩], .bool false])) w' := by
  unfold FlPost flV
  rw [h]
  exact ⟨rfl, hb⟩
theorem fl_yes {l : List UInt8} {n v : ByteArray} {w w' : World} (h : fieldL l = some ⟨ls n, ls v⟩) (hb : Below w.heap.size w w') : FlPost l w (.returned (.tuple #[.agg #[.string n, .string v], .bool true])) w' := by
  unfold FlPost flV
  rw [h]
  refine ⟨?_, hb⟩
  show _ = Ending.returned (.tuple #[.agg #[.string (bs (ls n)), .string (bs (ls v))], .bool true])
  rw [bs_ls, bs_ls]
theorem line_parts (s : ByteArray) : ∃ (X Y : ByteArray) (q : Bool), bs (befL (isB 58) (ls s)) = X ∧ bs ((fromL (isB 58) (ls s)).drop 1) = Y ∧ (ls s).any (isB 58) = q ∧ X.size ≤ s.size ∧ Y.size ≤ s.size ∧
    fieldL (ls s) = if q = true then (if isTk X = true then (if (ls Y).all inU = true then some ⟨ls (lowS X), ls (trimS Y)⟩ else none) else none) else none := by
  have hl := congrArg List.length (bef_from (isB 58) (ls s))
  rw [List.length_append, ls_length] at hl
  refine ⟨_, _, _, rfl, rfl, rfl, by rw [bs_size]; omega, by rw [bs_size, List.length_drop]; omega, ?_⟩
  have hk : (isTk (bs (befL (isB 58) (ls s))) = true) = (befL (isB 58) (ls s) ≠ [] ∧ (befL (isB 58) (ls s)).all tokU = true) := by
    unfold isTk
    rw [ls_bs, Bool.and_eq_true]
    simp
  rw [line_cut]
  unfold lowS trimS
  rw [ls_bs, ls_bs, ls_bs, ls_bs]
  simp only [hk]

set_option maxHeartbeats 2000000 in
theorem parseLine_any (s : ByteArray) (hs : s.size ≤ 1000000000) (w : World) : Calls Try.prog 23 #[.string s] w (FlPost (ls s) w) := by
  obtain ⟨X, Y, q, e1, e2, e3, z1, z2, e4⟩ := line_parts s
  have cc := fun W => scut_any s 58 W (by omega)
  unfold CutPost at cc
  simp only [e1, e2, e3] at cc
  clear e1 e2 e3
  have hX : X.size ≤ 1000000000 := by omega
  have hY : Y.size ≤ 1000000000 := by omega
  have ct := fun W => isTk_any X hX W
  cases q with
  | false =>
    have HN := Lib.hid (show fieldL (ls s) = none from by rw [e4, if_neg (by simp)])
    clear e4
    go_enter Try.func23, Try.ntmps23
    go_wp2_with (first | (refine wpList_alloc_arr _ rfl 2 rfl _ rfl fz zeroFd ?_; intro W2 g2 hg2 hl2 hR2 hG2))
    have hB2 := below_of_grown hG2
    refine (cc _).mono ?_
    rintro e w3 ⟨rfl, hb3⟩
    have hR3 : RowFd w3 g2 ⟨#[]⟩ ⟨#[]⟩ := Row.below hR2 hb3 (Row.lt hR2)
    have hB3 := hB2.trans (hb3.mono hB2.size)
    clear hR2 hG2 hb3 hB2 hl2
    go_wp2_with (first | (refine wpList_store_fd rfl rfl _ _ rfl g2 (by exact rfl) ⟨#[]⟩ ⟨#[]⟩ (by exact rfl) _ _ hR3 ?_; intro w9 hr9 hG9))
    exact ret_fd 2 3 rfl g2 rfl _ _ hr9 _ rfl rfl (fl_no HN.out (hB3.grown hG9 hB3.size (fun k e => by cases e; exact hg2)))
  | true =>
    cases hk : isTk X with
    | false =>
      have HN := Lib.hid (show fieldL (ls s) = none from by rw [e4, if_pos rfl, hk, if_neg (by simp)])
      rw [hk] at ct
      clear e4 hk
      go_enter Try.func23, Try.ntmps23
      go_wp2_with (first | (refine wpList_alloc_arr _ rfl 2 rfl _ rfl fz zeroFd ?_; intro W2 g2 hg2 hl2 hR2 hG2))
      have hB2 := below_of_grown hG2
      refine (cc _).mono ?_
      rintro e w3 ⟨rfl, hb3⟩
      have hR3 : RowFd w3 g2 ⟨#[]⟩ ⟨#[]⟩ := Row.below hR2 hb3 (Row.lt hR2)
      have hB3 := hB2.trans (hb3.mono hB2.size)
      clear hR2 hG2 hb3 hB2 hl2
      go_wp2_with fail
      refine (ct _).mono ?_
      rintro e w4 ⟨rfl, rfl⟩
      go_wp2_with (first | (refine wpList_store_fd rfl rfl _ _ rfl g2 (by exact rfl) ⟨#[]⟩ ⟨#[]⟩ (by exact rfl) _ _ hR3 ?_; intro w9 hr9 hG9))
      exact ret_fd 2 3 rfl g2 rfl _ _ hr9 _ rfl rfl (fl_no HN.out (hB3.grown hG9 hB3.size (fun k e => by cases e; exact hg2)))
    | true =>
      have HE := Lib.hid (show fieldL (ls s) = (if (ls Y).all inU = true then some ⟨ls (lowS X), ls (trimS Y)⟩ else none) from by rw [e4, if_pos rfl, hk, if_pos rfl])
      rw [hk] at ct
      clear e4 hk
      have cv := fun b W => fInValue_any b W
      have cl := fun W => lower_any X W hX
      have cm := fun W => trim_any Y W hY
      go_enter Try.func23, Try.ntmps23
      go_wp2_with (first | (refine wpList_alloc_arr _ rfl 2 rfl _ rfl fz zeroFd ?_; intro W2 g2 hg2 hl2 hR2 hG2))
      have hB2 := below_of_grown hG2
      refine (cc _).mono ?_
      rintro e w3 ⟨rfl, hb3⟩
      have hR3 : RowFd w3 g2 ⟨#[]⟩ ⟨#[]⟩ := Row.below hR2 hb3 (Row.lt hR2)
      have hB3 := hB2.trans (hb3.mono hB2.size)
      clear hR2 hG2 hb3 hB2 hl2 cc
      go_wp2_with fail
      refine (ct _).mono ?_
      rintro e w4 ⟨rfl, rfl⟩
      clear ct
      go_wp2
      go_loop [24] (fun t => ∃ k : Nat, k ≤ Y.size ∧ t = .int .i64 k ∧ Hid (((ls Y).take k).all inU = true)) (fun t => Y.size - (intOf t).toNat)
      case atStart => exact ⟨0, Nat.zero_le _, rfl, Lib.hid rfl⟩
      case round =>
        obtain ⟨k, hk, rfl, HT⟩ := hrel
        by_cases hlt : k < Y.size
        · cases hc : inU Y[k] with
          | false =>
            have HN := Lib.hid (show fieldL (ls s) = none from by
              rw [HE.out, if_neg]
              intro hx
              have := List.all_eq_true.1 hx Y[k] (List.mem_of_getElem? (ls_get Y k hlt))
              rw [this] at hc
              cases hc)
            have hc' : inV (Y[k].toNat : Int) = false := hc
            clear hc
            go_wp2_with fail
            refine (cv _ _).mono ?_
            rintro e w4 ⟨rfl, rfl⟩
            simp only [hc']
            go_wp2_with (first | (refine wpList_store_fd rfl rfl _ _ rfl g2 (by exact rfl) ⟨#[]⟩ ⟨#[]⟩ (by exact rfl) _ _ hR3 ?_; intro w9 hr9 hG9))
            exact ret_fd 2 3 rfl g2 rfl _ _ hr9 _ rfl rfl (fl_no HN.out (hB3.grown hG9 hB3.size (fun k e => by cases e; exact hg2)))
          | true =>
            have HT2 : Hid (((ls Y).take (k + 1)).all inU = true) := Lib.hid (by
              rw [List.take_succ_eq_append_getElem (by rw [ls_length]; exact hlt), List.all_append, HT.out]
              have : (ls Y)[k]'(by rw [ls_length]; exact hlt) = Y[k] := by
                have := ls_get Y k hlt
                rw [List.getElem?_eq_getElem (by rw [ls_length]; exact hlt), Option.some.injEq] at this
                exact this
              simp [this, hc])
            have hc' : inV (Y[k].toNat : Int) = true := hc
            clear hc
            go_wp2_with fail
            refine (cv _ _).mono ?_
            rintro e w4 ⟨rfl, rfl⟩
            simp only [hc']
            go_wp2
            go_round
            case rel => exact ⟨k + 1, by omega, by go_num, HT2⟩
            case measure => simp [intOf]; omega
        · obtain rfl : k = Y.size := by omega
          have HY := Lib.hid (show fieldL (ls s) = some ⟨ls (lowS X), ls (trimS Y)⟩ from by
            rw [HE.out, if_pos]
            have := HT.out
            rwa [← ls_length, List.take_length] at this)
          clear HT HE cv
          go_wp2_with fail
          refine (cl _).mono ?_
          rintro e w5 ⟨rfl, hb5⟩
          have hR5 : RowFd w5 g2 ⟨#[]⟩ ⟨#[]⟩ := Row.below hR3 hb5 (Row.lt hR3)
          have hB5 := hB3.trans (hb5.mono hB3.size)
          clear hR3 hB3 hb5 cl
          go_wp2_with fail
          refine (cm _).mono ?_
          rintro e w6 ⟨rfl, hb6⟩
          have hR6 : RowFd w6 g2 ⟨#[]⟩ ⟨#[]⟩ := Row.below hR5 hb6 (Row.lt hR5)
          have hB6 := hB5.trans (hb6.mono hB5.size)
          clear hR5 hB5 hb6 cm
          generalize lowS X = N at *
          generalize trimS Y = V at *
          go_wp2_with (first | (refine wpList_store_fd rfl rfl _ _ rfl g2 (by exact rfl) N V (by exact rfl) _ _ hR6 ?_; intro w9 hr9 hG9))
          exact ret_fd 2 3 rfl g2 rfl _ _ hr9 _ rfl rfl (fl_yes HY.out (hB6.grown hG9 hB6.size (fun k e => by cases e; exact hg2)))

end Go.Proofs.Ytmfoegpdjajicaa
