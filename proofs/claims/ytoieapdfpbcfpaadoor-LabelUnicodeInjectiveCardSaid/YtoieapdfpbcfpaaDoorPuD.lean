/-
  Punycode in plain words: encoding and decoding of bytes, and that they are inverse. No program.
-/
import Derived.Test.YtoieapdfpbcfpaaDoorPuE
namespace Go.Proofs.YtoieapdfpbcfpaaDoor
open Go.RowKit

/-- Where the last hyphen stands, or 0. -/
def cutGo : List UInt8 → Nat → Nat → Nat
  | [], _, c => c
  | b :: r, i, c => cutGo r (i + 1) (if b = 45 then i else c)
def cutL (l : List UInt8) : Nat := cutGo l 0 0
theorem cutGo_append : ∀ (x y : List UInt8) (i c : Nat), cutGo (x ++ y) i c = cutGo y (i + x.length) (cutGo x i c)
  | [], y, i, c => rfl
  | b :: x, y, i, c => by
    rw [List.cons_append, cutGo, cutGo_append x y, cutGo, List.length_cons]
    congr 1
    omega
theorem cutGo_no : ∀ (y : List UInt8) (i c : Nat), (∀ b ∈ y, b ≠ 45) → cutGo y i c = c
  | [], _, _, _ => rfl
  | b :: y, i, c, h => by
    rw [cutGo, if_neg (h b (by simp)), cutGo_no y _ _ (fun x hx => h x (by simp [hx]))]
theorem cutGo_lt : ∀ (l : List UInt8) (i c : Nat), cutGo l i c = c ∨ cutGo l i c < i + l.length
  | [], i, c => .inl rfl
  | b :: r, i, c => by
    rw [cutGo]
    rcases cutGo_lt r (i + 1) (if b = 45 then i else c) with h | h
    · rw [h]
      split
      · right; simp
      · left; rfl
    · right
      rw [List.length_cons]
      omega
theorem cutL_lt (l : List UInt8) (h : 0 < cutL l) : cutL l < l.length := by
  rcases cutGo_lt l 0 0 with h1 | h1
  · unfold cutL at h; omega
  · unfold cutL; omega
def restL (l : List UInt8) : List UInt8 := if 0 < cutL l then l.drop (cutL l + 1) else l
/-- Decoding of what stands behind the basic code points. -/
def decGo : Nat → List UInt8 → PSt → Nat → Bool → Except Nat (List Nat)
  | 0, _, _, _, _ => .error 4
  | f + 1, l, s, bias, first => if l = [] then .ok s.out else match rdNum l bias 0 1 s.i with
    | .error e => .error e
    | .ok (j, r) => if ptN (s.val (j - s.i)) = false then .error 2 else if 256 < s.out.length + 1 then .error 3 else decGo f r (s.step (j - s.i)) (adp (j - s.i) (s.out.length + 1) first) false
def decL (l : List UInt8) : Except Nat (List Nat) :=
  if 1024 < l.length then .error 3 else if l.any (fun b => decide (128 ≤ b.toNat)) = true then .error 4 else if 256 < cutL l then .error 3
  else decGo (l.length + 1) (restL l) (PSt.start ((l.take (cutL l)).map UInt8.toNat)) 72 true
theorem decGo_run : ∀ (ds : List Nat) (f : Nat) (s : PSt) (bias : Nat) (first : Bool), s.Ok ds → s.out.length + ds.length ≤ 256 → (digsOf ds bias s.out.length first).length < f → decGo f (digsOf ds bias s.out.length first) s bias first = .ok (s.run ds).out
  | ds, 0, s, bias, first, _, _, hf => by omega
  | [], f + 1, s, bias, first, _, _, _ => by rw [decGo, digsOf, if_pos rfl]; rfl
  | v :: r, f + 1, s, bias, first, hok, hl, hf => by
    have hne := genV_ne v 0 bias
    have hpos := List.length_pos_iff.2 hne
    rw [digsOf] at hf ⊢
    rw [List.length_append, List.length_map] at hf
    rw [List.length_cons] at hl
    have h0 : ¬ (genV v 0 bias).map digB ++ digsOf r (adp v (s.out.length + 1) first) (s.out.length + 1) false = [] := by
      intro h
      rw [List.append_eq_nil_iff, List.map_eq_nil_iff] at h
      exact hne h.1
    have hr := rdNum_gen v v 0 bias 1 s.i (digsOf r (adp v (s.out.length + 1) first) (s.out.length + 1) false) (Nat.le_refl _) (Nat.le_refl _) (by have := hok.1; omega)
    rw [decGo, if_neg h0, hr]
    simp only
    have hv : s.i + v * 1 - s.i = v := by omega
    rw [hv, if_neg (by rw [hok.2.1]; simp), if_neg (by omega)]
    have ih := decGo_run r f (s.step v) (adp v (s.out.length + 1) first) false hok.2.2 (by rw [PSt.step_len]; omega) (by rw [PSt.step_len]; omega)
    rw [PSt.step_len] at ih
    rw [ih, PSt.run]
theorem decGo_ok : ∀ (f : Nat) (l : List UInt8) (s : PSt) (bias : Nat) (first : Bool) (p : List Nat), decGo f l s bias first = .ok p → s.out.length ≤ 256 →
    ∃ ds, l.map lowD = digsOf ds bias s.out.length first ∧ (s.run ds).out = p ∧ p.length ≤ 256 ∧ (∀ x ∈ p, x ∈ s.out ∨ (s.n ≤ x ∧ ptN x = true)) ∧ (128 ≤ s.n → basicN p = basicN s.out)
  | 0, l, s, bias, first, p, h, _ => by cases h
  | f + 1, l, s, bias, first, p, h, hl => by
    rw [decGo] at h
    split at h
    · rename_i hnil
      injection h with h
      subst h hnil
      exact ⟨[], rfl, rfl, hl, fun x hx => .inl hx, fun _ => rfl⟩
    · split at h
      · cases h
      · rename_i j r hr
        obtain ⟨q, x, e1, _, e2, e3⟩ := rdNum_ok l bias 0 1 s.i j r hr
        have hq : j - s.i = q := by omega
        rw [hq] at h
        split at h
        · cases h
        · rename_i hpt
          split at h
          · cases h
          · rename_i h256
            obtain ⟨ds, g1, g2, g3, g4, g5⟩ := decGo_ok f r (s.step q) _ _ p h (by rw [PSt.step_len]; omega)
            refine ⟨q :: ds, ?_, g2, g3, ?_, ?_⟩
            · rw [e1, List.map_append, e2, g1, PSt.step_len, digsOf]
            · intro y hy
              rcases g4 y hy with hy | ⟨hy1, hy2⟩
              · have : y ∈ s.out.take (s.pos q) ++ s.val q :: s.out.drop (s.pos q) := hy
                rcases List.mem_append.1 this with hy | hy
                · exact .inl (List.mem_of_mem_take hy)
                · rcases List.mem_cons.1 hy with rfl | hy
                  · exact .inr ⟨s.val_ge q, by simpa using hpt⟩
                  · exact .inl (List.mem_of_mem_drop hy)
              · exact .inr ⟨Nat.le_trans (s.val_ge q) hy1, hy2⟩
            · intro hn
              rw [g5 (Nat.le_trans hn (s.val_ge q))]
              show (s.out.take (s.pos q) ++ s.val q :: s.out.drop (s.pos q)).filter _ = s.out.filter _
              have := s.val_ge q
              rw [List.filter_append, List.filter_cons_of_neg (by simp; omega), ← List.filter_append, List.take_append_drop]

/-- The encoding of code points. -/
def encB (P : List Nat) : List UInt8 := (basicN P).map UInt8.ofNat ++ ((if basicN P = [] then [] else [45]) ++ digsOf (encDs P) 72 (basicN P).length true)
theorem digs_no45 (ds : List Nat) (bias done : Nat) (first : Bool) : ∀ b ∈ digsOf ds bias done first, b ≠ 45 := by
  intro b hb he
  obtain ⟨d, hd, rfl⟩ := digsOf_mem ds bias done first b hb
  have := digB_range ⟨d, hd⟩
  rw [show digB (⟨d, hd⟩ : Fin 36).val = digB d from rfl, he] at this
  simp at this
theorem ofNat_toNat {x : Nat} (h : x < 128) : (UInt8.ofNat x).toNat = x := by
  rw [UInt8.toNat_ofNat']
  exact Nat.mod_eq_of_lt (by omega)
theorem map_ofNat : ∀ (b : List Nat), (∀ x ∈ b, x < 128) → (b.map UInt8.ofNat).map UInt8.toNat = b
  | [], _ => rfl
  | x :: b, h => by
    rw [List.map_cons, List.map_cons, ofNat_toNat (h x (by simp)), map_ofNat b (fun y hy => h y (by simp [hy]))]
theorem cut_encB (P : List Nat) : cutL (encB P) = (basicN P).length ∧ restL (encB P) = digsOf (encDs P) 72 (basicN P).length true ∧ (encB P).take (basicN P).length = (basicN P).map UInt8.ofNat := by
  have hno := digs_no45 (encDs P) 72 (basicN P).length true
  have htk : (encB P).take (basicN P).length = (basicN P).map UInt8.ofNat := by
    unfold encB
    rw [List.take_left' (by simp)]
  by_cases hb : basicN P = []
  · have e : encB P = digsOf (encDs P) 72 (basicN P).length true := by unfold encB; rw [if_pos hb, hb]; rfl
    have hc : cutL (encB P) = 0 := by unfold cutL; rw [e, cutGo_no _ _ _ hno]
    refine ⟨by rw [hc, hb]; rfl, ?_, htk⟩
    unfold restL
    rw [hc, if_neg (by omega), e]
  · have e : encB P = (basicN P).map UInt8.ofNat ++ (45 :: digsOf (encDs P) 72 (basicN P).length true) := by unfold encB; rw [if_neg hb]; rfl
    have hc : cutL (encB P) = (basicN P).length := by
      unfold cutL
      rw [e, cutGo_append, cutGo, if_pos rfl, cutGo_no _ _ _ hno, List.length_map, Nat.zero_add]
    refine ⟨hc, ?_, htk⟩
    unfold restL
    rw [hc, if_pos (List.length_pos_iff.2 hb), e, ← List.drop_drop, List.drop_left' (by simp)]
    rfl
theorem encB_ascii (P : List Nat) : (encB P).any (fun b => decide (128 ≤ b.toNat)) = false := by
  rw [List.any_eq_false]
  intro b hb
  rw [decide_eq_true_iff]
  unfold encB at hb
  rcases List.mem_append.1 hb with hb | hb
  · obtain ⟨x, hx, rfl⟩ := List.mem_map.1 hb
    have := basicN_lt P x hx
    rw [ofNat_toNat this]
    omega
  · rcases List.mem_append.1 hb with hb | hb
    · split at hb
      · simp at hb
      · simp at hb
        subst hb
        decide
    · obtain ⟨d, hd, rfl⟩ := digsOf_mem _ _ _ _ b hb
      have := digB_range ⟨d, hd⟩
      rw [show digB (⟨d, hd⟩ : Fin 36).val = digB d from rfl] at this
      omega
theorem encDs_len {P : List Nat} (hP : ∀ p ∈ P, ptN p = true) (hl : P.length ≤ 256) : (basicN P).length + (encDs P).length = P.length := by
  have h1 := (encDs_run hP hl).1
  have h2 := PSt.run_len (encDs P) (PSt.start (basicN P))
  rw [h1] at h2
  exact h2.symm
theorem basicN_self {b : List Nat} (h : ∀ x ∈ b, x < 128) : basicN b = b := filter_all (fun x hx => decide_eq_true (h x hx))
/-- Decoding reads back what encoding writes. -/
theorem dec_enc {P : List Nat} (hP : ∀ p ∈ P, ptN p = true) (hl : P.length ≤ 256) (ht : (encB P).length ≤ 1024) : decL (encB P) = .ok P := by
  obtain ⟨c1, c2, c3⟩ := cut_encB P
  obtain ⟨r1, r2⟩ := encDs_run hP hl
  have hlen := encDs_len hP hl
  have hds : (digsOf (encDs P) 72 (basicN P).length true).length ≤ (encB P).length := by unfold encB; simp only [List.length_append]; omega
  unfold decL
  rw [if_neg (by omega), encB_ascii, if_neg (by simp), c1, if_neg (by omega), c2, c3, map_ofNat _ (basicN_lt P)]
  have := decGo_run (encDs P) ((encB P).length + 1) (PSt.start (basicN P)) 72 true r2 (by show (basicN P).length + _ ≤ _; omega) (by show (digsOf (encDs P) 72 (basicN P).length true).length < _; omega)
  rw [r1] at this
  exact this
/-- What is decoded is encoded in as many bytes, and decoded again to the same. -/
theorem enc_dec {l : List UInt8} {p : List Nat} (h : decL l = .ok p) : (∀ x ∈ p, ptN x = true) ∧ p.length ≤ 256 ∧ (encB p).length = l.length ∧ decL (encB p) = .ok p := by
  unfold decL at h
  split at h
  · cases h
  · rename_i h1024
    split at h
    · cases h
    · rename_i hascii
      split at h
      · cases h
      · rename_i h256
        have hb : ∀ x ∈ (l.take (cutL l)).map UInt8.toNat, x < 128 := by
          intro x hx
          obtain ⟨b, hb, rfl⟩ := List.mem_map.1 hx
          rw [Bool.not_eq_true, List.any_eq_false] at hascii
          have := hascii b (List.mem_of_mem_take hb)
          rw [decide_eq_true_iff] at this
          omega
        have hbl : ((l.take (cutL l)).map UInt8.toNat).length = cutL l := by
          rw [List.length_map, List.length_take]
          by_cases hc : 0 < cutL l
          · have := cutL_lt l hc; omega
          · omega
        obtain ⟨ds, g1, g2, g3, g4, g5⟩ := decGo_ok _ _ _ _ _ p h (by show ((l.take (cutL l)).map UInt8.toNat).length ≤ 256; omega)
        generalize (l.take (cutL l)).map UInt8.toNat = b at *
        have hpb : basicN p = b := by
          rw [g5 (Nat.le_refl _)]
          exact basicN_self hb
        have hP : ∀ x ∈ p, ptN x = true := by
          intro x hx
          rcases g4 x hx with hx | hx
          · have := hb x hx
            unfold ptN
            simp
            omega
          · exact hx.2
        obtain ⟨r1, r2⟩ := encDs_run hP g3
        have hu : encDs p = ds := by
          refine PSt.unique _ _ (PSt.start (basicN p)) (PSt.start_inv (basicN_lt p)) ?_
          rw [r1, hpb, g2]
        have hlen : (encB p).length = l.length := by
          have e1 : (restL l).length = (digsOf ds 72 b.length true).length := by rw [← List.length_map (f := lowD), g1]; rfl
          unfold encB
          rw [hu, hpb]
          simp only [List.length_append, List.length_map]
          rw [← e1]
          unfold restL
          by_cases hc : 0 < cutL l
          · have hbne : b ≠ [] := List.length_pos_iff.1 (by omega)
            have := cutL_lt l hc
            rw [if_neg hbne, if_pos hc, List.length_drop]
            simp
            omega
          · have hbe : b = [] := List.eq_nil_of_length_eq_zero (by omega)
            rw [if_pos hbe, if_neg hc, hbe]
            simp
        exact ⟨hP, g3, hlen, dec_enc hP g3 (by omega)⟩
theorem ok_small : ∀ (ds : List Nat) (s : PSt), s.Ok ds → ∀ d ∈ ds, d < 10 ^ 11
  | [], _, _, d, h => by simp at h
  | v :: r, s, h, d, hd => by
    rcases List.mem_cons.1 hd with rfl | hd
    · have := h.1
      have e : (10 : Nat) ^ 11 = 100000000000 := by decide
      omega
    · exact ok_small r _ h.2.2 d hd
theorem encB_len {P : List Nat} (hP : ∀ p ∈ P, ptN p = true) (hl : P.length ≤ 256) : (encB P).length ≤ 12 * P.length + 1 := by
  have h1 := digsOf_len 11 (encDs P) 72 (basicN P).length true (ok_small _ _ (encDs_run hP hl).2)
  have h2 := encDs_len hP hl
  unfold encB
  rw [List.length_append, List.length_append, List.length_map]
  split
  · simp; omega
  · simp; omega

/-- Encoding of any numbers: the error, and the bytes. -/
def ptZ (z : Int) : Bool := decide (0 ≤ z) && ptN z.toNat
def encL (Z : List Int) : Nat × List UInt8 := if 256 < Z.length then (3, []) else if Z.all ptZ = true then (0, encB (Z.map Int.toNat)) else (2, [])
theorem all_pt {Z : List Int} (h : Z.all ptZ = true) : (∀ p ∈ Z.map Int.toNat, ptN p = true) ∧ (Z.map Int.toNat).map (fun n : Nat => (n : Int)) = Z := by
  rw [List.all_eq_true] at h
  refine ⟨?_, ?_⟩
  · intro p hp
    obtain ⟨z, hz, rfl⟩ := List.mem_map.1 hp
    have := h z hz
    unfold ptZ at this
    simp at this
    exact this.2
  · rw [List.map_map]
    conv => rhs; rw [← List.map_id Z]
    refine List.map_congr_left fun z hz => ?_
    have := h z hz
    unfold ptZ at this
    simp at this ⊢
    omega

theorem adpGo_le : ∀ (m d k : Nat), d ≤ 455 * 35 ^ m → adpGo d k ≤ k + 36 * m + 36
  | 0, d, k, h => by
    simp at h
    rw [adpGo, if_neg (by omega)]
    have : 36 * d / (d + 38) ≤ 36 := by
      refine Nat.div_le_of_le_mul ?_
      rw [Nat.add_mul]
      omega
    omega
  | m + 1, d, k, h => by
    rw [adpGo]
    split
    · have := adpGo_le m (d / 35) (k + 36) (by rw [Nat.pow_succ] at h; omega)
      omega
    · have : 36 * d / (d + 38) ≤ 36 := by
        refine Nat.div_le_of_le_mul ?_
        rw [Nat.add_mul]
        omega
      omega
theorem adp_le (delta n : Nat) (first : Bool) (h : delta ≤ 2199023255552) : adp delta n first ≤ 1000 := by
  unfold adp
  have h1 : (if first then delta / 700 else delta / 2) ≤ 1099511627776 := by split <;> omega
  have h2 := Nat.div_le_self (if first then delta / 700 else delta / 2) n
  have e : 455 * 35 ^ 7 = 29274380078125 := by decide
  have := adpGo_le 7 _ 0 (show (if first then delta / 700 else delta / 2) + (if first then delta / 700 else delta / 2) / n ≤ 455 * 35 ^ 7 by omega)
  omega

/-- An error is not 0. -/
theorem rdNum_err : ∀ (l : List UInt8) (bias k w i c : Nat), rdNum l bias k w i = .error c → c ≠ 0
  | [], _, _, _, _, c, h => by injection h with h; omega
  | b :: l, bias, k, w, i, c, h => by
    rw [rdNum] at h
    cases hp : pval b with
    | none => rw [hp] at h; injection h with h; omega
    | some d =>
      rw [hp] at h
      simp only at h
      split at h
      · injection h with h; omega
      · split at h
        · cases h
        · split at h
          · injection h with h; omega
          · exact rdNum_err l _ _ _ _ c h
theorem decGo_err : ∀ (f : Nat) (l : List UInt8) (s : PSt) (bias : Nat) (first : Bool) (c : Nat), decGo f l s bias first = .error c → c ≠ 0
  | 0, l, s, bias, first, c, h => by injection h with h; omega
  | f + 1, l, s, bias, first, c, h => by
    rw [decGo] at h
    split at h
    · cases h
    · split at h
      · rename_i e hr
        injection h with h
        subst h
        exact rdNum_err _ _ _ _ _ _ hr
      · split at h
        · injection h with h; omega
        · split at h
          · injection h with h; omega
          · exact decGo_err f _ _ _ _ c h
theorem dec_err_ne {l : List UInt8} {c : Nat} (h : decL l = .error c) : c ≠ 0 := by
  unfold decL at h
  split at h
  · injection h with h; omega
  · split at h
    · injection h with h; omega
    · split at h
      · injection h with h; omega
      · exact decGo_err _ _ _ _ _ c h
theorem encL_of {P : List Nat} (hP : ∀ p ∈ P, ptN p = true) (hl : P.length ≤ 256) : encL (P.map (fun n : Nat => (n : Int))) = (0, encB P) := by
  have h1 : (P.map (fun n : Nat => (n : Int))).all ptZ = true := by
    rw [List.all_eq_true]
    intro z hz
    obtain ⟨p, hp, rfl⟩ := List.mem_map.1 hz
    unfold ptZ
    rw [decide_eq_true (by omega)]
    exact hP p hp
  have h2 : (P.map (fun n : Nat => (n : Int))).map Int.toNat = P := by
    rw [List.map_map]
    conv => rhs; rw [← List.map_id P]
    exact List.map_congr_left fun p _ => rfl
  unfold encL
  rw [if_neg (by rw [List.length_map]; omega), if_pos h1, h2]

end Go.Proofs.YtoieapdfpbcfpaaDoor
