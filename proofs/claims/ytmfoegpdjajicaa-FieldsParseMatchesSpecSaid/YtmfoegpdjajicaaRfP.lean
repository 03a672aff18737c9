/-
  The reference's Parse of layer 21.
-/
import Derived.Test.YtmfoegpdjajicaaFdM
import Derived.Test.YtmfoegpdjajicaaFeP
import Derived.Test.YtmfoegpdjajicaaFdR
import Derived.Test.YtmfoegpdjajicaaRfL
import Derived.Deep.CutRange
import Derived.BigRegion
import Derived.Maps.AppendAt
namespace Go.Proofs.Ytmfoegpdjajicaa
open Go.RowKit

theorem Has.head9 {w : World} {B n : Nat} {A : Option Addr} {l : List UInt8} (h : Has w B A n (l.map bv)) (k : Nat) (hs : k ≤ n) : Has w B A k ((l.take k).map bv) := by
  have hl : l.length = n := by simpa using h.1
  refine ⟨by simp; omega, fun hk => ?_⟩
  obtain ⟨b, off, e, hb, hc⟩ := h.2 (by omega)
  refine ⟨b, off, e, hb, fun j hj => ?_⟩
  simp only [List.length_map, List.length_take] at hj
  rw [hc j (by simp; omega)]
  simp
theorem Has.tail9 {w : World} {B n b off : Nat} {l : List UInt8} (h : Has w B (some ⟨b, off, none⟩) n (l.map bv)) (s : Nat) (hs : s ≤ n) : Has w B (some ⟨b, off + s, none⟩) (n - s) ((l.drop s).map bv) := by
  have hl : l.length = n := by simpa using h.1
  refine ⟨by simp; omega, fun hk => ?_⟩
  obtain ⟨b', off', e, hb, hc⟩ := h.2 (by omega)
  injection e with e
  injection e with e1 e2 _
  subst e1 e2
  refine ⟨b, off + s, rfl, hb, fun j hj => ?_⟩
  simp only [List.length_map, List.length_drop] at hj
  rw [Nat.add_assoc, hc (s + j) (by simp; omega)]
  simp

/-! ### plain -/
/-- Where the line feed stands, and what it parts. -/
theorem feed_parts {r : List UInt8} (h : r.any (isB 10) = true) : ∃ p, p < r.length ∧ feedN r = (p : Int) ∧ r.take p = befL (isB 10) r ∧ r.drop (p + 1) = (fromL (isB 10) r).drop 1 := by
  have hbf := bef_from (isB 10) r
  refine ⟨(befL (isB 10) r).length, ?_, ?_, ?_, ?_⟩
  · have hl := congrArg List.length hbf
    rw [List.length_append] at hl
    cases hf : fromL (isB 10) r with
    | nil =>
      rw [hf, List.append_nil] at hbf
      have hb : ∀ b ∈ r, isB 10 b = false := fun b hb => by rw [← hbf] at hb; exact bef_not _ _ b hb
      rw [none_any hb] at h
      cases h
    | cons b t =>
      rw [hf] at hl
      simp at hl
      omega
  · unfold feedN
    rw [if_pos h]
  · have : r.take (befL (isB 10) r).length = (befL (isB 10) r ++ fromL (isB 10) r).take (befL (isB 10) r).length := by rw [hbf]
    rw [this, List.take_left]
  · have : r.drop ((befL (isB 10) r).length + 1) = (befL (isB 10) r ++ fromL (isB 10) r).drop ((befL (isB 10) r).length + 1) := by rw [hbf]
    rw [this, ← List.drop_drop, List.drop_left]
theorem feed_none {r : List UInt8} (h : r.any (isB 10) = false) : feedN r = -1 := by
  unfold feedN
  rw [if_neg (by rw [h]; decide)]
theorem ls_tail (s : ByteArray) (k : Nat) : ls (s.extract k s.size) = (ls s).drop k := by
  rw [ls_extract, List.take_of_length_le]
  rw [List.length_drop, ls_length]
  exact Nat.le_refl _
theorem ls_front (s : ByteArray) (k : Nat) : ls (s.extract 0 k) = (ls s).take k := by rw [ls_extract, List.drop_zero, Nat.sub_zero]
/-- The carriage return at a line's end. -/
theorem end_cr (X : ByteArray) : ∃ U : ByteArray, bs (st13 (ls X)) = U ∧ U.size ≤ X.size ∧ ∃ q : Bool, (q = false ∧ U = X ∧ (X.size = 0 ∨ 0 < X.size ∧ ∃ (m : Nat) (h : m < X.size), (X.size : Int) - 1 = (m : Int) ∧ ((X[m].toNat : Int) == 13) = false)) ∨
    (q = true ∧ 0 < X.size ∧ ∃ (m : Nat) (h : m < X.size), (X.size : Int) - 1 = (m : Int) ∧ ((X[m].toNat : Int) == 13) = true ∧ X.extract 0 m = U) := by
  by_cases h0 : X.size = 0
  · have hn : ls X = [] := List.eq_nil_of_length_eq_zero (by rw [ls_length]; exact h0)
    refine ⟨X, ?_, Nat.le_refl _, false, .inl ⟨rfl, rfl, .inl h0⟩⟩
    rw [hn, show st13 [] = [] from rfl, ← hn, bs_ls]
  · have hm : X.size - 1 < X.size := by omega
    have hl : (ls X).getLast? = some X[X.size - 1] := by rw [List.getLast?_eq_getElem?, ls_length, ls_get X _ hm]
    by_cases hb : X[X.size - 1] = 13
    · refine ⟨X.extract 0 (X.size - 1), ?_, by simp, true, .inr ⟨rfl, by omega, X.size - 1, hm, by omega, by rw [hb]; rfl, rfl⟩⟩
      unfold st13
      rw [if_pos (by rw [hl, hb]), List.dropLast_eq_take, ls_length, ← ls_front, bs_ls]
    · refine ⟨X, ?_, Nat.le_refl _, false, .inl ⟨rfl, rfl, .inr ⟨by omega, X.size - 1, hm, by omega, ?_⟩⟩⟩
      · unfold st13
        rw [if_neg (by rw [hl, Option.some.injEq]; exact hb), bs_ls]
      · rw [beq_eq_false_iff_ne]
        exact fun e => hb (UInt8.toNat_inj.1 (by show X[X.size - 1].toNat = 13; omega))
/-- A line read by the token at its beginning. -/
theorem line_tok (Y : ByteArray) : tkN Y 0 ≤ Y.size ∧ (tkN Y 0 = 0 → fieldL (ls Y) = none) ∧ (tkN Y 0 = Y.size → fieldL (ls Y) = none) ∧
    ∀ h : tkN Y 0 < Y.size, (Y[tkN Y 0] ≠ 58 → fieldL (ls Y) = none) ∧ (0 < tkN Y 0 → Y[tkN Y 0] = 58 → fieldL (ls Y) = if (ls (Y.extract (tkN Y 0 + 1) Y.size)).all inU = true then some ⟨ls (lowS (Y.extract 0 (tkN Y 0))), ls (trimS (Y.extract (tkN Y 0 + 1) Y.size))⟩ else none) := by
  have hk : tkN Y 0 = ((ls Y).takeWhile tokU).length := by unfold tkN; rw [List.drop_zero]
  have happ := List.takeWhile_append_dropWhile (p := tokU) (l := ls Y)
  have hlen := congrArg List.length happ
  rw [List.length_append, ls_length] at hlen
  rw [hk]
  refine ⟨by omega, fun h => ?_, fun h => ?_, fun h => ?_⟩
  · unfold fieldL
    rw [List.eq_nil_of_length_eq_zero h]
  · have hd : (ls Y).dropWhile tokU = [] := List.eq_nil_of_length_eq_zero (by omega)
    unfold fieldL
    rw [hd]
    cases (ls Y).takeWhile tokU <;> rfl
  · have hd : (ls Y).dropWhile tokU = Y[((ls Y).takeWhile tokU).length] :: (ls Y).drop (((ls Y).takeWhile tokU).length + 1) := by
      have h1 : (ls Y).dropWhile tokU = (ls Y).drop ((ls Y).takeWhile tokU).length := by
        have : (ls Y).drop ((ls Y).takeWhile tokU).length = ((ls Y).takeWhile tokU ++ (ls Y).dropWhile tokU).drop ((ls Y).takeWhile tokU).length := by rw [happ]
        rw [this, List.drop_left]
      rw [h1, drop_ls_cons Y _ h]
    have ht : (ls Y).take ((ls Y).takeWhile tokU).length = (ls Y).takeWhile tokU := by
      have : (ls Y).take ((ls Y).takeWhile tokU).length = ((ls Y).takeWhile tokU ++ (ls Y).dropWhile tokU).take ((ls Y).takeWhile tokU).length := by rw [happ]
      rw [this, List.take_left]
    refine ⟨fun hn => ?_, fun h0 h58 => ?_⟩
    · unfold fieldL
      rw [hd]
      split
      · rename_i c n v e1 e2
        injection e2 with e2 _
        exact absurd e2 hn
      · rfl
    · rw [ls_tail]
      unfold lowS trimS
      rw [ls_bs, ls_bs, ls_tail, ls_front, ht]
      unfold fieldL
      rw [hd, h58]
      cases hw : (ls Y).takeWhile tokU with
      | nil => rw [hw] at h0; simp at h0
      | cons c n => rfl

theorem own_belowF {w w' : World} {base n : Nat} {v : Value} {xs : List Value} (h : w.ownsRow base 44 2 v n xs) (hb : Below w.heap.size w w') : w'.ownsRow base 44 2 v n xs := own_below h hb
/-- append of a field at one operation, of a region whose order is drawn. -/
theorem step_app_fd {w0 wr : World} {ops : Array Oper} {o : Oper} {a : Act} {K : Act → World → Prop} {Q : Exit → Act → World → Prop} {E : Prop} (hgd : o.guard = none) (s x : Operand)
    (ho : o.op = .call { callee := .builtin .append, args := #[s, x], argTypes := #[25, 25] })
    (base : Nat) (N V : ByteArray) (v : Value) (l : List Fv) (hs : a.eval s = v) (hown : wr.ownsRow base 44 2 v l.length (fvv l)) (hx : a.eval x = .slice (some ⟨wr.heap.size, 0, none⟩) 1 1)
    (h63 : l.length ≤ 1000000) (hb : Below base w0 wr) (hbase : base ≤ w0.heap.size)
    (h : ∀ v' w', w'.ownsRow base 44 2 v' (l ++ [(⟨ls N, ls V⟩ : Fv)]).length (fvv (l ++ [(⟨ls N, ls V⟩ : Fv)])) → Below base w0 w' → K (a.put o.dst v') w') :
    if Region.wanted o (yielded ops a.tmps) = true then Oper.wp Try.prog o a (wr.alloc (.cells #[.string N, .string V] 44)) K Q else E := by
  obtain ⟨i, hi, hz0, hz1, hz2⟩ := info_parts infoFd
  have hw : Region.wanted o (yielded ops a.tmps) = true := by simp [Region.wanted, hgd]
  have hbw : base ≤ wr.heap.size := by have := hb.size; omega
  rw [if_pos hw]
  obtain ⟨v', w', hr, h2, h3, h4, h5⟩ := run_append_own_at (P := Try.prog) (wr.alloc (.cells #[.string N, .string V] 44)) base 25 o.type 44 i (.agg fz) 2 32 tyFds hi hz0 hz1 hz2 rfl (by decide) v l.length (fvv l) (hown.alloc _) ⟨wr.heap.size, 0, none⟩ 1 1 [.string N, .string V] rfl
    (by
      intro j q hj
      match j, hj with
      | 0, hj => simp at hj; subst hj; simp [Addr.add, World.cell?_alloc_at _ _ _ _ rfl]
      | 1, hj => simp at hj; subst hj; simp [Addr.add, World.cell?_alloc_at _ _ _ _ rfl]
      | j + 2, hj => simp at hj) (by simp [Value.oneCell']) (by unfold maxLen; omega) (by omega) (by rw [World.size_alloc]; omega)
  have e := fvv_snoc l ⟨ls N, ls V⟩
  simp only [bs_ls] at e
  rw [e] at h2
  have := h v' w' (by rw [List.length_append, List.length_singleton]; exact h2) (owns_below (hown.alloc _) (hb.alloc hbw _) (by simp; omega) h3)
  unfold Oper.wp execOp
  simp only [ho, resolve, invoke, builtin, Sem.run_bind, Sem.run_pure, Result.andThen_ok, List.map_toArray, List.map_cons, List.map_nil, hs, hx, hr]
  exact this

set_option maxRecDepth 20000 in
set_option maxHeartbeats 8000000 in
theorem refParse_any (A : Option Addr) (c : Nat) (l : List UInt8) (w : World) (hl : l.length ≤ 1000000000) (hH : Has w w.heap.size A l.length (l.map bv)) (hc : l.length ≤ c) (hcm : c ≤ 9223372036854775807) :
    Calls Try.prog 11 #[.slice A l.length c] w (FdsPost (fpar l) w) := by
  rw [fpar_lines]
  by_cases hb : 16384 < l.length
  · rw [if_pos hb]
    have hd : decide ((16384 : Int) < (l.length : Int)) = true := decide_eq_true (by omega)
    go_enter Try.func11, Try.ntmps11
    go_wp2
    go_ret2
    exact fds_nil rfl (Below.refl _ _)
  · rw [if_neg hb]
    have hd : decide ((16384 : Int) < (l.length : Int)) = false := decide_eq_false (by omega)
    have hl2 : l.length ≤ 16384 := by omega
    have HH := Lib.hid hH
    clear hb hH
    go_enter Try.func11, Try.ntmps11
    go_wp2
    go_loopw [0, 4] (fun v x wr => ∃ (r : List UInt8) (A' : Option Addr) (c' : Nat) (acc : List Fv), v = .slice A' r.length c' ∧ r.length ≤ c' ∧ c' ≤ 9223372036854775807 ∧ r.length ≤ 16384 ∧ Hid (Has w w.heap.size A' r.length (r.map bv)) ∧ wr.ownsRow w.heap.size 44 2 x acc.length (fvv acc) ∧ Below w.heap.size w wr ∧ acc.length ≤ 100 ∧ Hid (goL (linesL l) [] = goL (linesL r) acc))
      (fun v _ _ => match v with | .slice _ n _ => n | _ => 0)
    case atStart => exact ⟨l, A, c, [], rfl, hc, hcm, hl2, HH, World.ownsRow_nil _ _ _ _, Below.refl _ _, by simp, Lib.hid rfl⟩
    case round =>
      obtain ⟨r, A', c', acc, rfl, hrc, hcm', hr2, HR, hown, hbl, ha, HG⟩ := hrel
      obtain ⟨A1, c1, rfl, hh1, hc1, hc0⟩ := HasFd.of_own hown
      clear hd HH hc hcm hl hl2
      by_cases hr0 : 0 < r.length
      · obtain ⟨b, off, rfl, hbb, _⟩ := HR.out.2 hr0
        have hd0 : decide ((0 : Int) < (r.length : Int)) = true := decide_eq_true (by omega)
        have hHw : Has wr w.heap.size (some ⟨b, off, none⟩) r.length (r.map bv) := HR.out.below hbl
        have cf := refFind_any (some ⟨b, off, none⟩) r.length c' r w.heap.size wr hHw (by omega)
        have hne : r ≠ [] := fun e => by rw [e] at hr0; simp at hr0
        have hcons := linesL_cons hne
        cases hany : r.any (isB 10) with
        | false =>
          rw [feed_none hany] at cf
          have HE := Lib.hid (show goL (linesL l) [] = ([], 5) from by rw [HG.out, hcons, hany]; exact goL_trunc _ _ _)
          clear hcons hne hHw hany HG
          go_wp2_with fail
          refine cf.mono ?_
          rintro e w1 ⟨rfl, rfl⟩
          go_wp2
          go_ret2
          exact fds_nil HE.out hbl
        | true =>
          obtain ⟨p, hp, hfp, ht, hdr⟩ := feed_parts hany
          rw [hfp] at cf
          rw [hany] at hcons
          have hd1 : decide ((p : Int) < (0 : Int)) = false := decide_eq_false (by omega)
          have HC := Lib.hid hcons
          have HHw := Lib.hid hHw
          obtain ⟨X, hX⟩ : ∃ X, bs (r.take p) = X := ⟨_, rfl⟩
          have hconv : (convert 22 9 (.slice (some ⟨b, off, none⟩) p c')).run Try.prog wr = .ok (.string X) wr := by rw [← hX]; exact str_has wr _ p c' w.heap.size (r.take p) (hHw.head9 p (by omega))
          have hXs : X.size ≤ 16384 := by rw [← hX, bs_size, List.length_take]; omega
          have hXl : ls X = befL (isB 10) r := by rw [← hX, ls_bs, ht]
          obtain ⟨U, hU, hUs, qd, hcr⟩ := end_cr X
          have hUl : ls U = st13 (befL (isB 10) r) := by rw [← hU, ls_bs, hXl]
          rw [← hUl, ← hdr] at HC
          have HA : Hid (∀ A2 : Option Addr, (if c' = p + 1 then some (⟨b, off, none⟩ : Addr) else some ⟨b, off + (p + 1), none⟩) = A2 → Has w w.heap.size A2 (r.length - (p + 1)) ((r.drop (p + 1)).map bv)) := Lib.hid (by
            rintro A2 rfl
            by_cases hcp : c' = p + 1
            · have h0 : r.length - (p + 1) = 0 := by omega
              rw [h0, List.drop_eq_nil_of_le (by omega)]
              exact Has.nil _ _ _
            · rw [if_neg hcp]
              exact (HR.out.tail9 (p + 1) (by omega)))
          have HCR := Lib.hid hcr
          clear hcons hne hHw hany hX ht hdr hXl hU hUl hcr HHw
          go_wp2_with fail
          refine cf.mono ?_
          rintro e w1 ⟨rfl, rfl⟩
          go_upto_region 10 with fail
          clear cf hconv hd1 hfp
          generalize hA2 : (if c' = p + 1 then some (⟨b, off, none⟩ : Addr) else some ⟨b, off + (p + 1), none⟩) = A2
          have HA2 := Lib.hid (HA.out A2 hA2)
          clear hA2 HA
          have hq0 := nil_toList X
          go_cut [35] from 11 to 82 (fun v wx => wx = wr ∧ v = .bool qd)
          case first =>
            rcases HCR.out with ⟨rfl, rfl, hx0 | ⟨hx0, m, hm, hm3, hq⟩⟩ | ⟨rfl, hx0, m, hm, hm3, hq, hX⟩
            · rw [decide_eq_true hx0] at hq0
              go_wp2
              go_meet
              exact ⟨rfl, rfl⟩
            · rw [decide_eq_false (by omega)] at hq0
              clear hUs
              go_wp2
              go_meet
              exact ⟨rfl, rfl⟩
            · rw [decide_eq_false (by omega)] at hq0
              clear hUs hX
              go_wp2
              go_meet
              exact ⟨rfl, rfl⟩
          obtain ⟨hwx, hvx⟩ := hcut
          subst hwx
          subst hvx
          go_upto_if 35 with fail
          go_cut [6] from 11 to 82 (fun v wx => wc = wx ∧ v = .string U)
          case first =>
            rcases HCR.out with ⟨rfl, rfl, _⟩ | ⟨rfl, hx0, m, hm, hm3, hq, hX⟩
            · go_wp2
              go_meet
              exact ⟨rfl, rfl⟩
            · go_wp2
              go_meet
              exact ⟨rfl, by rw [← hX]⟩
          case rest =>
            obtain ⟨hwx, hvx⟩ := hcut
            subst hwx
            subst hvx
            have hq0 := nil_toList U
            have hUb : U.size ≤ 1000000000 := by omega
            have hrl : (r.drop (p + 1)).length = r.length - (p + 1) := by rw [List.length_drop]
            by_cases hu0 : U.size = 0
            · rw [decide_eq_true hu0] at hq0
              have hun : ls U = [] := List.eq_nil_of_length_eq_zero (by rw [ls_length]; exact hu0)
              have HE := Lib.hid (show goL (linesL l) [] = (acc, 0) from by rw [HG.out, HC.out, hun]; exact goL_end _ _)
              clear hun hu0 HC HG HCR hh1
              go_wp2
              go_ret2
              exact fds_own HE.out hown hbl
            · rw [decide_eq_false hu0] at hq0
              have hun : ls U ≠ [] := fun e => hu0 (by rw [← ls_length, e]; rfl)
              by_cases h100 : acc.length = 100
              · have HE := Lib.hid (show goL (linesL l) [] = ([], 3) from by rw [HG.out, HC.out]; exact goL_limit hun _ h100)
                have hdl : ((acc.length : Int) == (100 : Int)) = true := by rw [h100]; rfl
                clear hun hu0 HC HG HCR hh1 h100
                go_wp2
                go_ret2
                exact fds_nil HE.out hbl
              · have hdl : ((acc.length : Int) == (100 : Int)) = false := by rw [beq_eq_false_iff_ne]; omega
                have HN : Hid (fieldL (ls U) = none → goL (linesL l) [] = ([], 4)) := Lib.hid (fun hy => by rw [HG.out, HC.out]; exact goL_syntax hun _ h100 hy)
                have HY : Hid (∀ y, fieldL (ls U) = some y → goL (linesL l) [] = goL (linesL (r.drop (p + 1))) (acc ++ [y])) := Lib.hid (fun y hy => by rw [HG.out, HC.out, goL, if_neg (by simp), if_neg hun, if_neg h100, hy])
                obtain ⟨t1, t2, t3, t4⟩ := line_tok U
                have ct := refToken_any17 U ((0 : Nat) : Int) (by omega) (by omega) hUb wc
                rw [tkE_nat, Nat.zero_add] at ct
                have hctw : Calls Try.prog 25 #[.string U, .int .i64 0] wc fun e w' => e = .returned (.int .i64 (tkN U 0 : Nat)) ∧ wc = w' := ct
                generalize tkN U 0 = k at *
                have ha99 : acc.length ≤ 99 := by omega
                clear hun HC HG HCR hh1 h100 ct ha
                by_cases hk0 : k = 0
                · have HE := Lib.hid (HN.out (t2 hk0))
                  have hdk : ((k : Int) == (0 : Int)) = true := by rw [hk0]; rfl
                  clear t2 t3 t4 hk0 HN HY
                  go_wp2_with fail
                  refine hctw.mono ?_
                  rintro e w1 ⟨rfl, rfl⟩
                  go_wp2
                  go_ret2
                  exact fds_nil HE.out hbl
                · have hdk : ((k : Int) == (0 : Int)) = false := by rw [beq_eq_false_iff_ne]; omega
                  by_cases hks : k = U.size
                  · have HE := Lib.hid (HN.out (t3 hks))
                    have hdz : ((k : Int) == (U.size : Int)) = true := by rw [hks]; simp
                    clear t2 t3 t4 hk0 HN HY hks
                    go_wp2_with fail
                    refine hctw.mono ?_
                    rintro e w1 ⟨rfl, rfl⟩
                    go_wp2
                    go_ret2
                    exact fds_nil HE.out hbl
                  · have hdz : ((k : Int) == (U.size : Int)) = false := by rw [beq_eq_false_iff_ne]; omega
                    have hlt : k < U.size := by omega
                    obtain ⟨t5, t6⟩ := t4 hlt
                    by_cases h58 : U[k] = 58
                    · have hd58 : ((U[k].toNat : Int) != (58 : Int)) = false := by rw [h58]; rfl
                      have t7 := t6 (by omega) h58
                      obtain ⟨N, hN⟩ : ∃ N, U.extract 0 k = N := ⟨_, rfl⟩
                      obtain ⟨V, hV⟩ : ∃ V, U.extract (k + 1) U.size = V := ⟨_, rfl⟩
                      rw [hN, hV] at t7
                      have hNs : N.size ≤ 16384 := by rw [← hN]; simp; omega
                      have hVs : V.size ≤ 16384 := by rw [← hV]; simp; omega
                      have cv := fun W => refValue_any17 V (by omega) W
                      cases hall : (ls V).all inU with
                      | false =>
                        have HE := Lib.hid (HN.out (by rw [t7, hall]; rfl))
                        rw [hall] at cv
                        clear t2 t3 t4 t5 t6 t7 hk0 HN HY hks h58 hall
                        go_wp2_with fail
                        refine hctw.mono ?_
                        rintro e w1 ⟨rfl, rfl⟩
                        go_wp2_with fail
                        refine (cv _).mono ?_
                        rintro e w1 ⟨rfl, rfl⟩
                        go_wp2
                        go_ret2
                        exact fds_nil HE.out hbl
                      | true =>
                        have HG2 := Lib.hid (HY.out ⟨ls (lowS N), ls (trimS V)⟩ (by rw [t7, hall]; rfl))
                        rw [hall] at cv
                        have cl := fun W => refLower_any N W (by omega)
                        have ctr := fun W => refTrim_any V W (by omega)
                        clear t2 t3 t4 t5 t6 t7 hk0 HN HY hks h58 hall
                        generalize lowS N = L at *
                        generalize trimS V = T at *
                        go_wp2_with fail
                        refine hctw.mono ?_
                        rintro e w1 ⟨rfl, rfl⟩
                        go_wp2_with fail
                        refine (cv _).mono ?_
                        rintro e w1 ⟨rfl, rfl⟩
                        go_wp2
                        refine wp_region_any (by kernel_rfl) ?_
                        change wpAny _ _ _ _ _ _ _ (World.drew _)
                        have hownd := own_belowF hown (show Below wc.heap.size wc wc.drew from (Below.refl wc.heap.size wc).drew)
                        have hbld := hbl.trans (show Below w.heap.size wc wc.drew from (Below.refl w.heap.size wc).drew)
                        clear cv hctw hdl hdk hdz hd58
                        have hw1 : IntKind.i64.wrap ((k : Int) + 1) = (k : Int) + 1 := by rw [IntKind.wrap_i64]; omega
                        generalize wc.drew = wd at *
                        refine wpAny_take (i := 0) (v := .slice A1 acc.length c1) rfl (by kernel_rfl) (by kernel_rfl) (by kernel_rfl) (fun _ _ _ h => h) (Or.inl ⟨by rfl, by intro w; go_simp; try with_reducible rfl⟩) ?_
                        refine wpAny_take (i := 1) (v := .string U) rfl (by kernel_rfl) (by kernel_rfl) (by kernel_rfl) (fun _ _ _ h => h) (Or.inl ⟨by rfl, by intro w; go_simp; try with_reducible rfl⟩) ?_
                        refine wpAny_take (i := 2) (v := .int .i64 (k : Int)) rfl (by kernel_rfl) (by kernel_rfl) (by kernel_rfl) (fun _ _ _ h => h) (Or.inl ⟨by rfl, by intro w; go_simp; try with_reducible rfl⟩) ?_
                        refine wpAny_take (i := 3) (v := .string N) rfl (by kernel_rfl) (by kernel_rfl) (by kernel_rfl) (fun _ _ _ h => h) (Or.inl ⟨by rfl, by intro w; go_simp; try with_reducible rfl⟩) ?_
                        refine wpAny_take (i := 5) (v := .string U) rfl (by kernel_rfl) (by kernel_rfl) (by kernel_rfl) (fun _ _ _ h => h) (Or.inl ⟨by rfl, by intro w; go_simp; try with_reducible rfl⟩) ?_
                        refine wpAny_take (i := 6) (v := .int .i64 (k : Int)) rfl (by kernel_rfl) (by kernel_rfl) (by kernel_rfl) (fun _ _ _ h => h) (Or.inl ⟨by rfl, by intro w; go_simp; try with_reducible rfl⟩) ?_
                        refine wpAny_take (i := 7) (v := .int .i64 ((k : Int) + 1)) rfl (by kernel_rfl) (by kernel_rfl) (by kernel_rfl) (fun _ _ _ h => h) (Or.inl ⟨by rfl, by intro w; go_simp; try with_reducible rfl⟩) ?_
                        refine wpAny_take (i := 8) (v := .string V) rfl (by kernel_rfl) (by kernel_rfl) (by kernel_rfl) (fun _ _ _ h => h) (Or.inl ⟨by rfl, by intro w; go_simp; exact fun h => absurd (h (by omega)) (by omega)⟩) ?_
                        refine wpAny_ready (rs := [4]) (by kernel_rfl) (by simp) (AllReady.cons rfl (fun K hK => ?_) AllReady.nil)
                        go_simp
                        go_wp2_with fail
                        refine (cl _).mono ?_
                        rintro e w5 ⟨rfl, hb5⟩
                        refine hK _ _ ?_
                        clear hK K
                        refine wpAny_ready (rs := [9]) (by kernel_rfl) (by simp) (AllReady.cons rfl (fun K hK => ?_) AllReady.nil)
                        go_simp
                        go_wp2_with fail
                        refine (ctr _).mono ?_
                        rintro e w6 ⟨rfl, rfl⟩
                        refine hK _ _ ?_
                        clear hK K
                        refine wpAny_ready (rs := [10]) (by kernel_rfl) (by simp) (AllReady.cons rfl (fun K hK => ?_) AllReady.nil)
                        go_simp
                        refine hK _ _ ?_
                        clear hK K
                        refine wpAny_ready (rs := [11]) (by kernel_rfl) (by simp) (AllReady.cons rfl (fun K hK => ?_) AllReady.nil)
                        go_simp
                        refine hK _ _ ?_
                        clear hK K
                        refine wpAny_ready (rs := [12]) (by kernel_rfl) (by simp) (AllReady.cons rfl (fun K hK => ?_) AllReady.nil)
                        have hown5 := own_belowF hownd hb5
                        have hbl5 := hbld.trans (hb5.mono hbld.size)
                        refine step_app_fd rfl (.tmp 70) (.tmp 81) rfl w.heap.size L T (.slice A1 acc.length c1) acc (by rfl) hown5 (by rfl) (by omega) hbl5 (Nat.le_refl _) ?_
                        intro v' w7 hown7 hbl7
                        refine hK _ _ ?_
                        clear hK K
                        refine wpAny_ready (rs := [13]) (by kernel_rfl) (by simp) (AllReady.cons rfl (fun K hK => ?_) AllReady.nil)
                        go_simp
                        refine hK _ _ ?_
                        clear hK K
                        refine wpAny_done (by kernel_rfl) ?_ _
                        clear hown5 hbl5 hb5
                        go_wp2
                        go_roundw
                        case rel => exact ⟨r.drop (p + 1), A2, c' - (p + 1), acc ++ [⟨ls L, ls T⟩], by rw [hrl], by omega, by omega, by omega, by rw [hrl]; exact HA2, hown7, hbl7, by rw [List.length_append, List.length_singleton]; omega, HG2⟩
                        case measure => simp; omega
                    · have hd58 : ((U[k].toNat : Int) != (58 : Int)) = true := by
                        rw [bne, beq_eq_false_iff_ne.2 (fun e => h58 (UInt8.toNat_inj.1 (by show U[k].toNat = 58; omega)))]
                        rfl
                      have HE := Lib.hid (HN.out (t5 h58))
                      clear t2 t3 t4 t5 t6 hk0 HN HY hks h58
                      go_wp2_with fail
                      refine hctw.mono ?_
                      rintro e w1 ⟨rfl, rfl⟩
                      go_wp2
                      go_ret2
                      exact fds_nil HE.out hbl
      · have hr : r = [] := List.eq_nil_of_length_eq_zero (by omega)
        have HE := Lib.hid (show goL (linesL l) [] = (acc, 0) from by rw [HG.out, hr, linesL_nil]; rfl)
        have hd0 : decide ((0 : Int) < (r.length : Int)) = false := decide_eq_false (by omega)
        clear hr HG HR
        go_wp2
        go_ret2
        exact fds_own HE.out hown hbl

end Go.Proofs.Ytmfoegpdjajicaa
