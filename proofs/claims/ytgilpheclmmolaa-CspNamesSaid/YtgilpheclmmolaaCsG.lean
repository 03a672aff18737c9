/-
  The program's Merge of package csp.
-/
import Derived.Test.YtgilpheclmmolaaCsT
namespace Go.Proofs.Ytgilpheclmmolaa
open Go.RowKit Go.Shelf
attribute [local go_sem] Oper.semAt_some

theorem makeB (w : World) : (Instr.makeMap 38 none).run Try.prog w = .ok (.map (some w.heap.size)) (w.alloc (.map #[] 0)) := by
  simp [Instr.makeMap, Result.andThen]

/-- Where the loop over the values stands: the marks, the list of names. -/
def LpC (w : World) (n0 : Nat) (vs : List (List UInt8)) (k : Nat) (Ds : List Nat) (W : World) : Prop :=
  (∃ v D, MS w n0 (nmK vs k) v D W ∧ ∀ E ∈ Ds, ¬ ownC n0 v E) ∧ Ds.Nodup ∧ (∀ E ∈ Ds, n0 ≤ E ∧ W.heap[E]? = some (.deferred (some []))) ∧ (∀ j (h : j < vs.length), j < k → vs[j].length ≤ 4096)

theorem nmK_len {vs : List (List UInt8)} : ∀ (k : Nat), k ≤ vs.length → (∀ j (h : j < vs.length), j < k → vs[j].length ≤ 4096) → (nmK vs k).length ≤ k * 16785409
  | 0, _, _ => by rw [nmK_zero]; simp
  | k + 1, hk, h => by
    have h1 := nmK_len k (by omega) fun j hj hjk => h j hj (by omega)
    have h2 := namesV_len (h k (by omega) (by omega))
    have h3 := fold_len (namesV vs[k]) (nmK vs k)
    rw [nmK_succ (by omega), Nat.add_mul]
    omega
theorem merge_end {w W : World} {n0 : Nat} {Ds : List Nat} {u s : Bool} {A : Option Addr} {n c : Nat} {names : List (List UInt8)} {err : Int} {r : Cv × Int} {tmps : Array Value} (hrow : RowCv W n0 u s A n c) (hown : W.ownsRow (n0 + 4) 9 1 (.slice A n c) n (wv names))
    (hbel : Below n0 w W) (hn0 : n0 = w.heap.size) (hnd : Ds.Nodup) (hds : ∀ E ∈ Ds, n0 ≤ E ∧ W.heap[E]? = some (.deferred (some []))) (hp : tmps.getD 2 undef = .pointer (some ⟨n0, 0, none⟩)) (he : tmps.getD 3 undef = .int .i64 err) (hr : r = (⟨names, u, s⟩, err)) :
    bodyPostM Fence.wide 0 Try.prog Try.f11 (CspPost r w) .ret { tmps := tmps, defers := Ds.map markD } W := by
  subst hr
  refine leaves_marks (fun W' => RowCv W' n0 u s A n c ∧ W'.ownsRow (n0 + 4) 9 1 (.slice A n c) n (wv names) ∧ Below n0 w W') n0 ?_ ?_ Ds W hnd hds ⟨hrow, hown, hbel⟩
  · rintro W' D hD hd ⟨h1, h2, h3⟩
    refine ⟨(World.putObj_heap_other ?_).trans h1, ownsRow_putObj h2 _ hd rfl, h3.grown (grownBy_putObj' W' D _) (by rw [hn0]; exact h3.size) (fun k e => by cases e; exact hD)⟩
    rintro rfl
    rw [show W'.heap[n0]? = _ from h1] at hd
    cases hd
  · rintro W' ⟨h1, h2, h3⟩
    have hl : n = names.length := by have := h2.1; rw [wv_length] at this; omega
    subst hl
    obtain ⟨A', c', e, hh, hle⟩ := Has.of_own h2
    cases e
    exact ⟨_, res_cv 2 3 rfl hp h1 _ he, ⟨A, c, rfl, ⟨hle, of_own_none h2⟩, hh, by rw [← hn0]; exact h3⟩⟩
theorem lsU : ls ⟨#[117, 112, 103, 114, 97, 100, 101, 45, 105, 110, 115, 101, 99, 117, 114, 101, 45, 114, 101, 113, 117, 101, 115, 116, 115]⟩ = nmU := rfl
theorem lsB : ls ⟨#[98, 108, 111, 99, 107, 45, 97, 108, 108, 45, 109, 105, 120, 101, 100, 45, 99, 111, 110, 116, 101, 110, 116]⟩ = nmB := rfl

set_option maxRecDepth 100000 in
set_option maxHeartbeats 4000000 in
theorem merge_any (A : Option Addr) (cap : Nat) (vs : List (List UInt8)) (w : World) (hn : vs.length ≤ 20) (_ : ∀ v ∈ vs, v.length ≤ maxLen) (hH : Has w w.heap.size A vs.length (wv vs)) :
    Calls Try.prog 11 #[.slice A vs.length cap] w (CspPost (mergeC vs) w) := by
  have hmk := makeB
  have h0 := MS.start w
  refine (callsIn_wide (n := 0)).1 ?_
  refine callsIn_of_wp_marks Try.func11 rfl trivial ?_ rfl
  simp only [Try.ntmps11, List.size_toArray, List.length_cons, List.length_nil, Nat.reduceAdd, Nat.reduceSub, Array.replicate_succ, Array.replicate_zero, List.push_toArray, List.append_toArray, List.nil_append, List.cons_append]
  gi_wp2
  obtain ⟨n0, hn0⟩ : ∃ x, x = w.heap.size := ⟨_, rfl⟩
  rw [← hn0] at h0 hH ⊢
  refine wpIn_loop (fun a' W => ∃ (k : Nat) (Ds : List Nat) (u7 u13 u14 u15 u16 u17 u18 u20 u21 u33 : Value), k ≤ vs.length ∧
      a' = { tmps := #[.slice A vs.length cap, undef, .pointer (some ⟨n0, 0, none⟩), .int .i64 0, .pointer (some ⟨n0 + 1, 0, none⟩), .pointer (some ⟨n0 + 3, 0, none⟩), undef, u7, undef, .map (some (n0 + 2)), .slice A vs.length cap, .int .i64 (vs.length : Nat), .int .i64 (k : Nat), u13, u14, u15, u16, u17, u18, undef, u20, u21, undef, undef, undef, undef, undef, undef, undef, undef, undef, undef, undef, u33, undef, undef, undef, undef, undef, undef], defers := Ds.map markD } ∧
      LpC w n0 vs k Ds W) (fun a' _ => vs.length - (intOf (a'.tmps.getD 12 undef)).toNat) ?start ?round
  case start => exact ⟨0, [], undef, undef, undef, undef, undef, undef, undef, undef, undef, undef, Nat.zero_le _, rfl, ⟨⟨_, _, h0, fun _ h => by cases h⟩, List.nodup_nil, (fun _ h => by cases h), fun _ _ h => by omega⟩⟩
  case round =>
    clear h0 hmk hn0
    rintro a' W ⟨k, Ds, u7, u13, u14, u15, u16, u17, u18, u20, u21, u33, hk, rfl, ⟨⟨v, D, hms, hE⟩, hnd, hds, hsm⟩⟩
    dsimp only
    have hHW : Has W n0 A vs.length (wv vs) := hH.keep fun p hp => Below.cell hms.bel hp
    have c5 := hms.mbx.cell
    have hbig := hms.big
    by_cases hlt : k < vs.length
    · obtain ⟨b, off, rfl, hc⟩ := str_cell hHW k hlt
      rw [List.getD_eq_getElem?_getD, List.getElem?_eq_getElem hlt, Option.getD_some] at hc
      have hsucc := nmK_succ hlt
      obtain ⟨X, hX⟩ : ∃ X, X = bs vs[k] := ⟨_, rfl⟩
      have hXl : ls X = vs[k] := by rw [hX, ls_bs]
      have hXs : X.size = vs[k].length := by rw [hX, bs_size]
      rw [← hX] at hc
      by_cases hb : 4096 < X.size
      · have HM := Lib.hid (too_at hlt (by omega))
        have hd : decide ((4096 : Int) < (X.size : Int)) = true := decide_eq_true (by omega)
        clear hsucc hX hXl hXs hsm
        gi_wp2_with (refine wpListIn_store_cv rfl rfl _ _ rfl n0 (by exact rfl) false false none 0 0 (by exact rfl) _ _ _ _ _ hms.res ?_; intro W9 hr9 hG9)
        have hbel := hms.bel.grown hG9 (by rw [hms.n0_]; exact hms.bel.size) (fun j e => by cases e; exact Nat.le_refl _)
        refine merge_end (names := []) hr9 (World.ownsRow_nil _ _ _ _) hbel hms.n0_ hnd (fun E hE => ⟨(hds E hE).1, (hG9.block E (Array.getElem?_eq_some_iff.1 (hds E hE).2).1 fun e => ?_).trans (hds E hE).2⟩) rfl rfl (by rw [HM.out]; rfl)
        cases e
        have := (hds n0 hE).2
        rw [show W.heap[n0]? = _ from hms.res] at this
        cases this
      · have hd : decide ((4096 : Int) < (X.size : Int)) = false := decide_eq_false (by omega)
        have hlen := nmK_len k hk hsm
        have hvl := namesV_len (v := vs[k]) (by omega)
        have hsm' : ∀ j (h : j < vs.length), j < k + 1 → vs[j].length ≤ 4096 := fun j h hj => by
          by_cases hjk : j = k
          · subst hjk; omega
          · exact hsm j h (by omega)
        rw [← hXl] at hsucc hvl
        have hXs1 : X.size ≤ 1000000000 := by omega
        have hk20 : k * 16785409 ≤ 19 * 16785409 := Nat.mul_le_mul_right _ (by omega)
        have HSM := Lib.hid hsm'
        have HSU := Lib.hid hsucc
        clear hsucc hX hXl hXs hsm hsm' hb
        have cnm := fun W => names_any X W
        gi_wp2_with fail
        refine ⟨trivial, rfl, ?_⟩
        refine (callsIn_wide.2 (cnm _)).mono ?_
        rintro e w1 ⟨rfl, rfl⟩
        gi_wp2_with fail
        have bX := Boxed.new W 9 (.string X)
        have g1 := (Below.refl W.heap.size W).alloc (Nat.le_refl _) (.cells #[.string X] 9)
        have hms1 := hms.below g1
        have hds1 : ∀ E ∈ Ds, E < W.heap.size := fun E hE => (Array.getElem?_eq_some_iff.1 (hds E hE).2).1
        have hds2 : ∀ E ∈ Ds, n0 ≤ E ∧ (W.alloc (.cells #[.string X] 9)).heap[E]? = some (.deferred (some [])) := fun E hE => ⟨(hds E hE).1, (g1.block E (hds1 E hE)).trans (hds E hE).2⟩
        have hz1 : (W.alloc (.cells #[.string X] 9)).heap.size = W.heap.size + 1 := by simp
        generalize W.alloc (.cells #[.string X] 9) = W1 at *
        obtain ⟨B1, hB1⟩ : ∃ x, x = W.heap.size := ⟨_, rfl⟩
        rw [← hB1] at bX hz1 hds1 hbig ⊢
        clear hc hHW cnm g1 hms hds hB1 c5 hd
        obtain ⟨i0, hi, hz0, hy1, hz2⟩ := info_parts infoStr
        refine wpIn_range_C (gf := 19) (lb := #[.pointer (some ⟨B1, 0, none⟩)]) rfl (enters_of Try.func19 (by kernel_rfl) rfl)
          (L := namesV (ls X)) (Kr := fun _ => False) (fun W0 hg => names_it B1 X hXs1 W0 ((hg.block _ bX.lt (by simp)).trans bX)) rfl
          (fun xs C W' => (∃ v D, MS w n0 (xs.foldl addN (nmK vs k)) v D W' ∧ C = ownC n0 v) ∧ ∀ E ∈ Ds, ¬ C E ∧ W'.heap[E]? = some (.deferred (some [])))
          (fun c _ C W' => False) (ownC n0 v)
          ((MS.std (by omega) _).and (fun s C W W' row h hg hr E hE => ⟨(h E hE).1, (hg.block E (Array.getElem?_eq_some_iff.1 (h E hE).2).1 (fun e => by have := (hr E e.symm).1; have := hds1 E hE; omega)).trans (h E hE).2⟩))
          (fun c => std_pure _ _) (fun s C W' h => by obtain ⟨⟨v2, D2, h2, rfl⟩, _⟩ := h; exact h2.bound) (fun k h => h.elim)
          ⟨⟨v, D, hms1, rfl⟩, fun E h => ⟨hE E h, (hds2 E h).2⟩⟩
          (fun x => { tmps := #[.slice (some ⟨b, off, none⟩) vs.length cap, undef, .pointer (some ⟨n0, 0, none⟩), .int .i64 0, .pointer (some ⟨n0 + 1, 0, none⟩), .pointer (some ⟨n0 + 3, 0, none⟩), undef, .string X, .string x, .map (some (n0 + 2)), .slice (some ⟨b, off, none⟩) vs.length cap, .int .i64 (vs.length : Nat), .int .i64 (k : Nat), .bool true, .pointer (some ⟨b, off + k, none⟩), .string X, .string X, .int .i64 (X.size : Nat), .bool false, undef, .string X, .func (.func 19) #[] #[.pointer (some ⟨B1, 0, none⟩)], .string x, undef, undef, undef, undef, undef, undef, undef, undef, undef, undef, u33, undef, undef, undef, undef, undef, undef], defers := [] }) ?assign ?body ?done ?stop
        case assign =>
          intro l x W K hK
          gi_wp2
          exact hK
        case stop =>
          intro D c pre C W2 _ _ _ h
          exact h.elim
        case done =>
          rintro E C W2 hD hnD ⟨⟨v2, D2, hms2, rfl⟩, hE2⟩ hK
          gi_wp2
          go_roundw
          case rel =>
            refine ⟨k + 1, E :: Ds, .string X, .bool true, .pointer (some ⟨b, off + k, none⟩), .string X, .string X, .int .i64 (X.size : Nat), .bool false, .string X, .func (.func 19) #[] #[.pointer (some ⟨B1, 0, none⟩)], .int .i64 ((k : Int) + 1), by omega, by simp [markD], ⟨⟨v2, D2, by rw [HSU.out]; exact hms2, ?_⟩, ?_, ?_, HSM.out⟩⟩
            · intro F hF
              rcases List.mem_cons.1 hF with rfl | hF
              · exact hnD
              · exact (hE2 F hF).1
            · exact List.nodup_cons.2 ⟨fun h => by have := hds1 E h; omega, hnd⟩
            · intro F hF
              rcases List.mem_cons.1 hF with rfl | hF
              · exact ⟨by omega, hK⟩
              · exact ⟨(hds2 F hF).1, (hE2 F hF).2⟩
          case measure => simp [intOf]; omega
        case body =>
          rintro l pre x C W2 hl hnl hrec hxs hpre ⟨⟨v2, D2, hms2, rfl⟩, hE2⟩
          have hpl : pre.length + 1 ≤ (namesV (ls X)).length := by
            have := hpre.length_le
            simpa using this
          have hfl := fold_len pre (nmK vs k)
          have hL9 : (pre.foldl addN (nmK vs k)).length ≤ 900000000 := by omega
          have hsn : (pre ++ [ls x]).foldl addN (nmK vs k) = addN (pre.foldl addN (nmK vs k)) (ls x) := by rw [List.foldl_append]; rfl
          have hlk := hms2.map.look hxs
          have c4 := hms2.box.cell
          have f4 := hms2.box.frozen
          have c5 := hms2.mbx.cell
          have hbig2 := hms2.big
          clear hfl hpl hms1 hds1 hds2 bX hlen hvl hk20
          generalize pre.foldl addN (nmK vs k) = L2 at *
          by_cases hm : ls x ∈ L2
          · have HA : Hid ((pre ++ [ls x]).foldl addN (nmK vs k) = L2) := Lib.hid (by rw [hsn]; unfold addN; rw [if_pos hm])
            rw [decide_eq_true hm] at hlk
            clear hm hsn
            gi_wp2
            exact ⟨_, Grow.refl _ _, ⟨v2, D2, by rw [HA.out]; exact hms2, rfl⟩, hE2⟩
          · have HA : Hid ((pre ++ [ls x]).foldl addN (nmK vs k) = L2 ++ [ls x]) := Lib.hid (by rw [hsn]; unfold addN; rw [if_neg hm])
            rw [decide_eq_false hm] at hlk
            obtain ⟨w3, D3, hput, hm3, hg3⟩ := hms2.map.put (by omega) hxs
            have b3 : Boxed w3 (n0 + 1) 22 v2 := hms2.box.kept hg3 (by simp)
            have k3 := b3.cell
            have r3 : w3.ownsRow (n0 + 4) 9 1 v2 L2.length (wv L2) := hms2.row.kept hg3 (.inr fun e => by have := (hms2.own_row e).1; omega)
            have hz3 := hg3.size
            clear hm hsn
            gi_wp2_with (gi_at_builtin; refine wpListIn_append_own_at _ rfl _ _ 22 rfl (n0 + 4) 9 i0 (.string ByteArray.empty) 1 16 tyStrs hi hz0 hy1 hz2 rfl (by decide) _ _ _ rfl (r3.alloc _) ⟨w3.heap.size, 0, none⟩ 1 1 [.string x] rfl rfl (cell_one_new _ _ _) (by simp [Value.oneCell']) (by unfold maxLen; omega) (by omega) (by simp; omega) ?_; intro v' w5 hown' hgrow _ hat; obtain ⟨g', cap', rfl⟩ := ownsRow_succ hown'; obtain ⟨p1, p2, p3⟩ := MS.app hms2 hm3 hg3 (x := ls x) (by rw [bs_ls]; exact hown') hgrow hat; have q1 := p1.cell; have q2 := p1.frozen)
            refine ⟨_, p3, ⟨_, D3, by rw [HA.out]; exact p2, rfl⟩, fun E hE => ?_⟩
            obtain ⟨h1, h2⟩ := hE2 E hE
            have hlt2 := (Array.getElem?_eq_some_iff.1 h2).1
            exact ⟨p3.not hlt2 h1, (p3.same E hlt2 h1).trans h2⟩
    · have hkn : k = vs.length := by omega
      subst hkn
      have hall : ∀ v ∈ vs, v.length ≤ 4096 := fun v hv => by
        obtain ⟨j, hj, rfl⟩ := List.getElem_of_mem hv
        exact hsm j hj hj
      have hr := not_too hall
      have hinv := merge_inv vs
      rw [hr] at hinv
      have hnm : nmK vs vs.length = (vs.foldl addV cv0).names := by unfold nmK; rw [List.take_length]
      rw [hnm] at hms
      have hlU := hms.map.look (s := ⟨#[117, 112, 103, 114, 97, 100, 101, 45, 105, 110, 115, 101, 99, 117, 114, 101, 45, 114, 101, 113, 117, 101, 115, 116, 115]⟩) (by decide)
      have hlB := hms.map.look (s := ⟨#[98, 108, 111, 99, 107, 45, 97, 108, 108, 45, 109, 105, 120, 101, 100, 45, 99, 111, 110, 116, 101, 110, 116]⟩) (by decide)
      rw [lsU, ← hinv.up] at hlU
      rw [lsB, ← hinv.bl] at hlB
      obtain ⟨A', c', rfl, hh, hle⟩ := Has.of_own hms.row
      have c4 := hms.box.cell
      have HR := Lib.hid hr
      clear hr hinv hnm hall hsm hlt hH hHW hh hle
      generalize vs.foldl addV cv0 = c at *
      gi_wp2_with (refine wpListIn_store_cv rfl rfl _ _ rfl n0 (by exact rfl) c.up c.bl A' c.names.length c' (by exact rfl) _ _ _ _ _ hms.res ?_; intro W9 hr9 hG9)
      have hbel := hms.bel.grown hG9 (by rw [hms.n0_]; exact hms.bel.size) (fun j e => by cases e; exact Nat.le_refl _)
      refine merge_end (names := c.names) hr9 (hms.row.kept hG9 (.inr fun e => by have := (hms.own_row e).1; omega)) hbel hms.n0_ hnd (fun E hE => ⟨(hds E hE).1, (hG9.block E (Array.getElem?_eq_some_iff.1 (hds E hE).2).1 fun e => ?_).trans (hds E hE).2⟩) rfl rfl HR.out
      cases e
      have := (hds n0 hE).2
      rw [show W.heap[n0]? = _ from hms.res] at this
      cases this

end Go.Proofs.Ytgilpheclmmolaa
