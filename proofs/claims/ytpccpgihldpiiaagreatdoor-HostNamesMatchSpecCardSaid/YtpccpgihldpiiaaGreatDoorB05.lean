/-
Punycode in plain words: encoding and decoding of bytes, and that they are inverse. No program.
Text in UTF-8 in plain words: its code points, and back; small letters. No program.
-/
import Derived.Test.YtpccpgihldpiiaaGreatDoorB04
import Derived.Test.YtpccpgihldpiiaaGreatDoorB00
namespace Go.Proofs.YtpccpgihldpiiaaGreatDoor
section
open Go.RowKit

/-- Where the last hyphen stands, or 0. -/
def cutGo : List UInt8 → Nat → Nat → Nat
  | [], _, c => c
  | b :: r, i, c => cutGo r (i + 1) (if b = 45 then i else c)
def cutL (l : List UInt8) : Nat := cutGo l 0 0
theorem cutGo_append : ∀ (x y : List UInt8) (i c : Nat), cutGo (x ++ y) i c = cutGo y (i + x.length) (cutGo x i c)
  | [], y, i, c => rfl
  | b :: x, y, i, c => by
    rw [List.cons_append, cutGo, cutGo_append x y, cutGo, List.length_cons]
    congr 1
    omega
theorem cutGo_no : ∀ (y : List UInt8) (i c : Nat), (∀ b ∈ y, b ≠ 45) → cutGo y i c = c
  | [], _, _, _ => rfl
  | b :: y, i, c, h => by
    rw [cutGo, if_neg (h b (by simp)), cutGo_no y _ _ (fun x hx => h x (by simp [hx]))]
theorem cutGo_lt : ∀ (l : List UInt8) (i c : Nat), cutGo l i c = c ∨ cutGo l i c < i + l.length
  | [], i, c => .inl rfl
  | b :: r, i, c => by
    rw [cutGo]
    rcases cutGo_lt r (i + 1) (if b = 45 then i else c) with h | h
    · rw [h]
      split
      · right; simp
      · left; rfl
    · right
      rw [List.length_cons]
      omega
theorem cutL_lt (l : List UInt8) (h : 0 < cutL l) : cutL l < l.length := by
  rcases cutGo_lt l 0 0 with h1 | h1
  · unfold cutL at h; omega
  · unfold cutL; omega
def restL (l : List UInt8) : List UInt8 := if 0 < cutL l then l.drop (cutL l + 1) else l
/-- Decoding of what stands behind the basic code points. -/
def decGo : Nat → List UInt8 → PSt → Nat → Bool → Except Nat (List Nat)
  | 0, _, _, _, _ => .error 4
  | f + 1, l, s, bias, first => if l = [] then .ok s.out else match rdNum l bias 0 1 s.i with
    | .error e => .error e
    | .ok (j, r) => if ptN (s.val (j - s.i)) = false then .error 2 else if 256 < s.out.length + 1 then .error 3 else decGo f r (s.step (j - s.i)) (adp (j - s.i) (s.out.length + 1) first) false
def decL (l : List UInt8) : Except Nat (List Nat) :=
  if 1024 < l.length then .error 3 else if l.any (fun b => decide (128 ≤ b.toNat)) = true then .error 4 else if 256 < cutL l then .error 3
  else decGo (l.length + 1) (restL l) (PSt.start ((l.take (cutL l)).map UInt8.toNat)) 72 true
theorem decGo_run : ∀ (ds : List Nat) (f : Nat) (s : PSt) (bias : Nat) (first : Bool), s.Ok ds → s.out.length + ds.length ≤ 256 → (digsOf ds bias s.out.length first).length < f → decGo f (digsOf ds bias s.out.length first) s bias first = .ok (s.run ds).out
  | ds, 0, s, bias, first, _, _, hf => by omega
  | [], f + 1, s, bias, first, _, _, _ => by rw [decGo, digsOf, if_pos rfl]; rfl
  | v :: r, f + 1, s, bias, first, hok, hl, hf => by
    have hne := genV_ne v 0 bias
    have hpos := List.length_pos_iff.2 hne
    rw [digsOf] at hf ⊢
    rw [List.length_append, List.length_map] at hf
    rw [List.length_cons] at hl
    have h0 : ¬ (genV v 0 bias).map digB ++ digsOf r (adp v (s.out.length + 1) first) (s.out.length + 1) false = [] := by
      intro h
      rw [List.append_eq_nil_iff, List.map_eq_nil_iff] at h
      exact hne h.1
    have hr := rdNum_gen v v 0 bias 1 s.i (digsOf r (adp v (s.out.length + 1) first) (s.out.length + 1) false) (Nat.le_refl _) (Nat.le_refl _) (by have := hok.1; omega)
    rw [decGo, if_neg h0, hr]
    simp only
    have hv : s.i + v * 1 - s.i = v := by omega
    rw [hv, if_neg (by rw [hok.2.1]; simp), if_neg (by omega)]
    have ih := decGo_run r f (s.step v) (adp v (s.out.length + 1) first) false hok.2.2 (by rw [PSt.step_len]; omega) (by rw [PSt.step_len]; omega)
    rw [PSt.step_len] at ih
    rw [ih, PSt.run]
theorem decGo_ok : ∀ (f : Nat) (l : List UInt8) (s : PSt) (bias : Nat) (first : Bool) (p : List Nat), decGo f l s bias first = .ok p → s.out.length ≤ 256 →
    ∃ ds, l.map lowD = digsOf ds bias s.out.length first ∧ (s.run ds).out = p ∧ p.length ≤ 256 ∧ (∀ x ∈ p, x ∈ s.out ∨ (s.n ≤ x ∧ ptN x = true)) ∧ (128 ≤ s.n → basicN p = basicN s.out)
  | 0, l, s, bias, first, p, h, _ => by cases h
  | f + 1, l, s, bias, first, p, h, hl => by
    rw [decGo] at h
    split at h
    · rename_i hnil
      injection h with h
      subst h hnil
      exact ⟨[], rfl, rfl, hl, fun x hx => .inl hx, fun _ => rfl⟩
    · split at h
      · cases h
      · rename_i j r hr
        obtain ⟨q, x, e1, _, e2, e3⟩ := rdNum_ok l bias 0 1 s.i j r hr
        have hq : j - s.i = q := by omega
        rw [hq] at h
        split at h
        · cases h
        · rename_i hpt
          split at h
          · cases h
          · rename_i h256
            obtain ⟨ds, g1, g2, g3, g4, g5⟩ := decGo_ok f r (s.step q) _ _ p h (by rw [PSt.step_len]; omega)
            refine ⟨q :: ds, ?_, g2, g3, ?_, ?_⟩
            · rw [e1, List.map_append, e2, g1, PSt.step_len, digsOf]
            · intro y hy
              rcases g4 y hy with hy | ⟨hy1, hy2⟩
              · have : y ∈ s.out.take (s.pos q) ++ s.val q :: s.out.drop (s.pos q) := hy
                rcases List.mem_append.1 this with hy | hy
                · exact .inl (List.mem_of_mem_take hy)
                · rcases List.mem_cons.1 hy with rfl | hy
                  · exact .inr ⟨s.val_ge q, by simpa using hpt⟩
                  · exact .inl (List.mem_of_mem_drop hy)
              · exact .inr ⟨Nat.le_trans (s.val_ge q) hy1, hy2⟩
            · intro hn
              rw [g5 (Nat.le_trans hn (s.val_ge q))]
              show (s.out.take (s.pos q) ++ s.val q :: s.out.drop (s.pos q)).filter _ = s.out.filter _
              have := s.val_ge q
              rw [List.filter_append, List.filter_cons_of_neg (by simp; omega), ← List.filter_append, List.take_append_drop]

/-- The encoding of code points. -/
def encB (P : List Nat) : List UInt8 := (basicN P).map UInt8.ofNat ++ ((if basicN P = [] then [] else [45]) ++ digsOf (encDs P) 72 (basicN P).length true)
theorem digs_no45 (ds : List Nat) (bias done : Nat) (first : Bool) : ∀ b ∈ digsOf ds bias done first, b ≠ 45 := by
  intro b hb he
  obtain ⟨d, hd, rfl⟩ := digsOf_mem ds bias done first b hb
  have := digB_range ⟨d, hd⟩
  rw [show digB (⟨d, hd⟩ : Fin 36).val = digB d from rfl, he] at this
  simp at this
theorem ofNat_toNat {x : Nat} (h : x < 128) : (UInt8.ofNat x).toNat = x := by
  rw [UInt8.toNat_ofNat']
  exact Nat.mod_eq_of_lt (by omega)
theorem map_ofNat : ∀ (b : List Nat), (∀ x ∈ b, x < 128) → (b.map UInt8.ofNat).map UInt8.toNat = b
  | [], _ => rfl
  | x :: b, h => by
    rw [List.map_cons, List.map_cons, ofNat_toNat (h x (by simp)), map_ofNat b (fun y hy => h y (by simp [hy]))]
theorem cut_encB (P : List Nat) : cutL (encB P) = (basicN P).length ∧ restL (encB P) = digsOf (encDs P) 72 (basicN P).length true ∧ (encB P).take (basicN P).length = (basicN P).map UInt8.ofNat := by
  have hno := digs_no45 (encDs P) 72 (basicN P).length true
  have htk : (encB P).take (basicN P).length = (basicN P).map UInt8.ofNat := by
    unfold encB
    rw [List.take_left' (by simp)]
  by_cases hb : basicN P = []
  · have e : encB P = digsOf (encDs P) 72 (basicN P).length true := by unfold encB; rw [if_pos hb, hb]; rfl
    have hc : cutL (encB P) = 0 := by unfold cutL; rw [e, cutGo_no _ _ _ hno]
    refine ⟨by rw [hc, hb]; rfl, ?_, htk⟩
    unfold restL
    rw [hc, if_neg (by omega), e]
  · have e : encB P = (basicN P).map UInt8.ofNat ++ (45 :: digsOf (encDs P) 72 (basicN P).length true) := by unfold encB; rw [if_neg hb]; rfl
    have hc : cutL (encB P) = (basicN P).length := by
      unfold cutL
      rw [e, cutGo_append, cutGo, if_pos rfl, cutGo_no _ _ _ hno, List.length_map, Nat.zero_add]
    refine ⟨hc, ?_, htk⟩
    unfold restL
    rw [hc, if_pos (List.length_pos_iff.2 hb), e, ← List.drop_drop, List.drop_left' (by simp)]
    rfl
theorem encB_ascii (P : List Nat) : (encB P).any (fun b => decide (128 ≤ b.toNat)) = false := by
  rw [List.any_eq_false]
  intro b hb
  rw [decide_eq_true_iff]
  unfold encB at hb
  rcases List.mem_append.1 hb with hb | hb
  · obtain ⟨x, hx, rfl⟩ := List.mem_map.1 hb
    have := basicN_lt P x hx
    rw [ofNat_toNat this]
    omega
  · rcases List.mem_append.1 hb with hb | hb
    · split at hb
      · simp at hb
      · simp at hb
        subst hb
        decide
    · obtain ⟨d, hd, rfl⟩ := digsOf_mem _ _ _ _ b hb
      have := digB_range ⟨d, hd⟩
      rw [show digB (⟨d, hd⟩ : Fin 36).val = digB d from rfl] at this
      omega
theorem encDs_len {P : List Nat} (hP : ∀ p ∈ P, ptN p = true) (hl : P.length ≤ 256) : (basicN P).length + (encDs P).length = P.length := by
  have h1 := (encDs_run hP hl).1
  have h2 := PSt.run_len (encDs P) (PSt.start (basicN P))
  rw [h1] at h2
  exact h2.symm
theorem basicN_self {b : List Nat} (h : ∀ x ∈ b, x < 128) : basicN b = b := filter_all (fun x hx => decide_eq_true (h x hx))
/-- Decoding reads back what encoding writes. -/
theorem dec_enc {P : List Nat} (hP : ∀ p ∈ P, ptN p = true) (hl : P.length ≤ 256) (ht : (encB P).length ≤ 1024) : decL (encB P) = .ok P := by
  obtain ⟨c1, c2, c3⟩ := cut_encB P
  obtain ⟨r1, r2⟩ := encDs_run hP hl
  have hlen := encDs_len hP hl
  have hds : (digsOf (encDs P) 72 (basicN P).length true).length ≤ (encB P).length := by unfold encB; simp only [List.length_append]; omega
  unfold decL
  rw [if_neg (by omega), encB_ascii, if_neg (by simp), c1, if_neg (by omega), c2, c3, map_ofNat _ (basicN_lt P)]
  have := decGo_run (encDs P) ((encB P).length + 1) (PSt.start (basicN P)) 72 true r2 (by show (basicN P).length + _ ≤ _; omega) (by show (digsOf (encDs P) 72 (basicN P).length true).length < _; omega)
  rw [r1] at this
  exact this
/-- What is decoded is encoded in as many bytes, and decoded again to the same. -/
theorem enc_dec {l : List UInt8} {p : List Nat} (h : decL l = .ok p) : (∀ x ∈ p, ptN x = true) ∧ p.length ≤ 256 ∧ (encB p).length = l.length ∧ decL (encB p) = .ok p := by
  unfold decL at h
  split at h
  · cases h
  · rename_i h1024
    split at h
    · cases h
    · rename_i hascii
      split at h
      · cases h
      · rename_i h256
        have hb : ∀ x ∈ (l.take (cutL l)).map UInt8.toNat, x < 128 := by
          intro x hx
          obtain ⟨b, hb, rfl⟩ := List.mem_map.1 hx
          rw [Bool.not_eq_true, List.any_eq_false] at hascii
          have := hascii b (List.mem_of_mem_take hb)
          rw [decide_eq_true_iff] at this
          omega
        have hbl : ((l.take (cutL l)).map UInt8.toNat).length = cutL l := by
          rw [List.length_map, List.length_take]
          by_cases hc : 0 < cutL l
          · have := cutL_lt l hc; omega
          · omega
        obtain ⟨ds, g1, g2, g3, g4, g5⟩ := decGo_ok _ _ _ _ _ p h (by show ((l.take (cutL l)).map UInt8.toNat).length ≤ 256; omega)
        generalize (l.take (cutL l)).map UInt8.toNat = b at *
        have hpb : basicN p = b := by
          rw [g5 (Nat.le_refl _)]
          exact basicN_self hb
        have hP : ∀ x ∈ p, ptN x = true := by
          intro x hx
          rcases g4 x hx with hx | hx
          · have := hb x hx
            unfold ptN
            simp
            omega
          · exact hx.2
        obtain ⟨r1, r2⟩ := encDs_run hP g3
        have hu : encDs p = ds := by
          refine PSt.unique _ _ (PSt.start (basicN p)) (PSt.start_inv (basicN_lt p)) ?_
          rw [r1, hpb, g2]
        have hlen : (encB p).length = l.length := by
          have e1 : (restL l).length = (digsOf ds 72 b.length true).length := by rw [← List.length_map (f := lowD), g1]; rfl
          unfold encB
          rw [hu, hpb]
          simp only [List.length_append, List.length_map]
          rw [← e1]
          unfold restL
          by_cases hc : 0 < cutL l
          · have hbne : b ≠ [] := List.length_pos_iff.1 (by omega)
            have := cutL_lt l hc
            rw [if_neg hbne, if_pos hc, List.length_drop]
            simp
            omega
          · have hbe : b = [] := List.eq_nil_of_length_eq_zero (by omega)
            rw [if_pos hbe, if_neg hc, hbe]
            simp
        exact ⟨hP, g3, hlen, dec_enc hP g3 (by omega)⟩
theorem ok_small : ∀ (ds : List Nat) (s : PSt), s.Ok ds → ∀ d ∈ ds, d < 10 ^ 11
  | [], _, _, d, h => by simp at h
  | v :: r, s, h, d, hd => by
    rcases List.mem_cons.1 hd with rfl | hd
    · have := h.1
      have e : (10 : Nat) ^ 11 = 100000000000 := by decide
      omega
    · exact ok_small r _ h.2.2 d hd
theorem encB_len {P : List Nat} (hP : ∀ p ∈ P, ptN p = true) (hl : P.length ≤ 256) : (encB P).length ≤ 12 * P.length + 1 := by
  have h1 := digsOf_len 11 (encDs P) 72 (basicN P).length true (ok_small _ _ (encDs_run hP hl).2)
  have h2 := encDs_len hP hl
  unfold encB
  rw [List.length_append, List.length_append, List.length_map]
  split
  · simp; omega
  · simp; omega

/-- Encoding of any numbers: the error, and the bytes. -/
def ptZ (z : Int) : Bool := decide (0 ≤ z) && ptN z.toNat
def encL (Z : List Int) : Nat × List UInt8 := if 256 < Z.length then (3, []) else if Z.all ptZ = true then (0, encB (Z.map Int.toNat)) else (2, [])
theorem all_pt {Z : List Int} (h : Z.all ptZ = true) : (∀ p ∈ Z.map Int.toNat, ptN p = true) ∧ (Z.map Int.toNat).map (fun n : Nat => (n : Int)) = Z := by
  rw [List.all_eq_true] at h
  refine ⟨?_, ?_⟩
  · intro p hp
    obtain ⟨z, hz, rfl⟩ := List.mem_map.1 hp
    have := h z hz
    unfold ptZ at this
    simp at this
    exact this.2
  · rw [List.map_map]
    conv => rhs; rw [← List.map_id Z]
    refine List.map_congr_left fun z hz => ?_
    have := h z hz
    unfold ptZ at this
    simp at this ⊢
    omega

theorem adpGo_le : ∀ (m d k : Nat), d ≤ 455 * 35 ^ m → adpGo d k ≤ k + 36 * m + 36
  | 0, d, k, h => by
    simp at h
    rw [adpGo, if_neg (by omega)]
    have : 36 * d / (d + 38) ≤ 36 := by
      refine Nat.div_le_of_le_mul ?_
      rw [Nat.add_mul]
      omega
    omega
  | m + 1, d, k, h => by
    rw [adpGo]
    split
    · have := adpGo_le m (d / 35) (k + 36) (by rw [Nat.pow_succ] at h; omega)
      omega
    · have : 36 * d / (d + 38) ≤ 36 := by
        refine Nat.div_le_of_le_mul ?_
        rw [Nat.add_mul]
        omega
      omega
theorem adp_le (delta n : Nat) (first : Bool) (h : delta ≤ 2199023255552) : adp delta n first ≤ 1000 := by
  unfold adp
  have h1 : (if first then delta / 700 else delta / 2) ≤ 1099511627776 := by split <;> omega
  have h2 := Nat.div_le_self (if first then delta / 700 else delta / 2) n
  have e : 455 * 35 ^ 7 = 29274380078125 := by decide
  have := adpGo_le 7 _ 0 (show (if first then delta / 700 else delta / 2) + (if first then delta / 700 else delta / 2) / n ≤ 455 * 35 ^ 7 by omega)
  omega

/-- An error is not 0. -/
theorem rdNum_err : ∀ (l : List UInt8) (bias k w i c : Nat), rdNum l bias k w i = .error c → c ≠ 0
  | [], _, _, _, _, c, h => by injection h with h; omega
  | b :: l, bias, k, w, i, c, h => by
    rw [rdNum] at h
    cases hp : pval b with
    | none => rw [hp] at h; injection h with h; omega
    | some d =>
      rw [hp] at h
      simp only at h
      split at h
      · injection h with h; omega
      · split at h
        · cases h
        · split at h
          · injection h with h; omega
          · exact rdNum_err l _ _ _ _ c h
theorem decGo_err : ∀ (f : Nat) (l : List UInt8) (s : PSt) (bias : Nat) (first : Bool) (c : Nat), decGo f l s bias first = .error c → c ≠ 0
  | 0, l, s, bias, first, c, h => by injection h with h; omega
  | f + 1, l, s, bias, first, c, h => by
    rw [decGo] at h
    split at h
    · cases h
    · split at h
      · rename_i e hr
        injection h with h
        subst h
        exact rdNum_err _ _ _ _ _ _ hr
      · split at h
        · injection h with h; omega
        · split at h
          · injection h with h; omega
          · exact decGo_err f _ _ _ _ c h
theorem dec_err_ne {l : List UInt8} {c : Nat} (h : decL l = .error c) : c ≠ 0 := by
  unfold decL at h
  split at h
  · injection h with h; omega
  · split at h
    · injection h with h; omega
    · split at h
      · injection h with h; omega
      · exact decGo_err _ _ _ _ _ c h
theorem encL_of {P : List Nat} (hP : ∀ p ∈ P, ptN p = true) (hl : P.length ≤ 256) : encL (P.map (fun n : Nat => (n : Int))) = (0, encB P) := by
  have h1 : (P.map (fun n : Nat => (n : Int))).all ptZ = true := by
    rw [List.all_eq_true]
    intro z hz
    obtain ⟨p, hp, rfl⟩ := List.mem_map.1 hz
    unfold ptZ
    rw [decide_eq_true (by omega)]
    exact hP p hp
  have h2 : (P.map (fun n : Nat => (n : Int))).map Int.toNat = P := by
    rw [List.map_map]
    conv => rhs; rw [← List.map_id P]
    exact List.map_congr_left fun p _ => rfl
  unfold encL
  rw [if_neg (by rw [List.length_map]; omega), if_pos h1, h2]
end

section
open Go.RowKit

/-- What a first byte says: how many bytes, the value so far, the least value. -/
def lead8 (b : Nat) : Option (Nat × Nat × Nat) :=
  if b < 128 then some (0, b, 0) else if 194 ≤ b ∧ b < 224 then some (1, b - 192, 128) else if 224 ≤ b ∧ b < 240 then some (2, b - 224, 2048)
  else if 240 ≤ b ∧ b < 245 then some (3, b - 240, 65536) else none
/-- The value behind k further bytes. -/
def cont8 : Nat → Nat → List UInt8 → Option Nat
  | 0, v, _ => some v
  | _ + 1, _, [] => none
  | k + 1, v, c :: l => if 128 ≤ c.toNat ∧ c.toNat ≤ 191 then cont8 k (v * 64 + c.toNat - 128) l else none
/-- The first code point, and how many bytes there are behind its first. -/
def one8 (b : UInt8) (l : List UInt8) : Option (Nat × Nat) := match lead8 b.toNat with
  | none => none
  | some (k, v, least) => match cont8 k v l with
    | none => none
    | some u => if u < least ∨ ptN u = false then none else some (u, k)
def ptsGo : Nat → List UInt8 → Option (List Nat)
  | _, [] => some []
  | 0, _ :: _ => none
  | f + 1, b :: l => match one8 b l with
    | none => none
    | some (u, k) => (ptsGo f (l.drop k)).map (u :: ·)
def ptsL (l : List UInt8) : Option (List Nat) := ptsGo l.length l
/-- A code point in UTF-8. -/
def txt8 (p : Nat) : List UInt8 :=
  if p < 128 then [UInt8.ofNat p] else if p < 2048 then [UInt8.ofNat (192 + p / 64), UInt8.ofNat (128 + p % 64)]
  else if p < 65536 then [UInt8.ofNat (224 + p / 4096), UInt8.ofNat (128 + p / 64 % 64), UInt8.ofNat (128 + p % 64)]
  else [UInt8.ofNat (240 + p / 262144), UInt8.ofNat (128 + p / 4096 % 64), UInt8.ofNat (128 + p / 64 % 64), UInt8.ofNat (128 + p % 64)]
def txtL (P : List Nat) : List UInt8 := P.flatMap txt8

theorem of8 {x : Nat} (h : x < 256) : (UInt8.ofNat x).toNat = x := by
  rw [UInt8.toNat_ofNat']
  omega
theorem cont8_drop : ∀ (k v : Nat) (l : List UInt8) (u : Nat), cont8 k v l = some u → k ≤ l.length
  | 0, _, _, _, _ => Nat.zero_le _
  | k + 1, _, [], _, h => by simp [cont8] at h
  | k + 1, v, c :: l, u, h => by
    rw [cont8] at h
    split at h
    · have := cont8_drop k _ l u h
      simp
      omega
    · cases h
theorem ptsGo_fuel : ∀ (f g : Nat) (l : List UInt8), l.length ≤ f → l.length ≤ g → ptsGo f l = ptsGo g l
  | f, g, [], _, _ => by cases f <;> cases g <;> rfl
  | 0, g, b :: l, h, _ => by simp at h
  | f, 0, b :: l, _, h => by simp at h
  | f + 1, g + 1, b :: l, hf, hg => by
    rw [ptsGo, ptsGo]
    cases one8 b l with
    | none => rfl
    | some x =>
      obtain ⟨u, k⟩ := x
      show (ptsGo f (l.drop k)).map _ = (ptsGo g (l.drop k)).map _
      rw [ptsGo_fuel f g (l.drop k) (by simp at hf ⊢; omega) (by simp at hg ⊢; omega)]
theorem ptsL_cons (b : UInt8) (l : List UInt8) : ptsL (b :: l) = match one8 b l with
    | none => none
    | some (u, k) => (ptsL (l.drop k)).map (u :: ·) := by
  unfold ptsL
  rw [List.length_cons, ptsGo]
  cases one8 b l with
  | none => rfl
  | some x =>
    obtain ⟨u, k⟩ := x
    show (ptsGo l.length (l.drop k)).map _ = (ptsGo (l.drop k).length (l.drop k)).map _
    rw [ptsGo_fuel l.length (l.drop k).length (l.drop k) (by simp) (Nat.le_refl _)]
theorem ptsL_nil : ptsL [] = some [] := rfl

/-- A code point's bytes are read as this code point. -/
theorem one8_txt {p : Nat} (hp : ptN p = true) (r : List UInt8) : ∃ b x, txt8 p = b :: x ∧ one8 b (x ++ r) = some (p, x.length) := by
  have hle := ptN_le hp
  unfold txt8
  by_cases h1 : p < 128
  · rw [if_pos h1]
    refine ⟨_, _, rfl, ?_⟩
    unfold one8 lead8
    rw [of8 (by omega), if_pos h1]
    simp [cont8, hp]
  · rw [if_neg h1]
    by_cases h2 : p < 2048
    · rw [if_pos h2]
      refine ⟨_, _, rfl, ?_⟩
      unfold one8 lead8
      rw [of8 (by omega), if_neg (by omega), if_pos (by omega)]
      simp only [List.cons_append, List.nil_append, cont8]
      rw [of8 (by omega), if_pos (by omega)]
      have e : (192 + p / 64 - 192) * 64 + (128 + p % 64) - 128 = p := by omega
      rw [e]
      simp only []
      rw [if_neg (by rw [hp]; simp; omega)]
      rfl
    · rw [if_neg h2]
      by_cases h3 : p < 65536
      · rw [if_pos h3]
        refine ⟨_, _, rfl, ?_⟩
        unfold one8 lead8
        rw [of8 (by omega), if_neg (by omega), if_neg (by omega), if_pos (by omega)]
        simp only [List.cons_append, List.nil_append, cont8]
        rw [of8 (by omega), of8 (by omega), if_pos (by omega), if_pos (by omega)]
        have e : ((224 + p / 4096 - 224) * 64 + (128 + p / 64 % 64) - 128) * 64 + (128 + p % 64) - 128 = p := by omega
        rw [e]
        simp only []
        rw [if_neg (by rw [hp]; simp; omega)]
        rfl
      · rw [if_neg h3]
        refine ⟨_, _, rfl, ?_⟩
        unfold one8 lead8
        rw [of8 (by omega), if_neg (by omega), if_neg (by omega), if_neg (by omega), if_pos (by omega)]
        simp only [List.cons_append, List.nil_append, cont8]
        rw [of8 (by omega), of8 (by omega), of8 (by omega), if_pos (by omega), if_pos (by omega), if_pos (by omega)]
        have e : (((240 + p / 262144 - 240) * 64 + (128 + p / 4096 % 64) - 128) * 64 + (128 + p / 64 % 64) - 128) * 64 + (128 + p % 64) - 128 = p := by omega
        rw [e]
        simp only []
        rw [if_neg (by rw [hp]; simp; omega)]
        rfl
theorem pts_txt : ∀ (P : List Nat), (∀ p ∈ P, ptN p = true) → ptsL (txtL P) = some P
  | [], _ => rfl
  | p :: P, h => by
    obtain ⟨b, x, e, ho⟩ := one8_txt (h p (by simp)) (txtL P)
    have ih := pts_txt P (fun q hq => h q (by simp [hq]))
    show ptsL (txt8 p ++ txtL P) = _
    rw [e, List.cons_append, ptsL_cons, ho]
    show (ptsL ((x ++ txtL P).drop x.length)).map _ = _
    rw [List.drop_left, ih]
    rfl
theorem cont8_take : ∀ (k v : Nat) (l : List UInt8) (u : Nat), cont8 k v l = some u → ∃ x, x.length = k ∧ l = x ++ l.drop k ∧ (∀ c ∈ x, 128 ≤ c.toNat ∧ c.toNat ≤ 191) ∧ u = x.foldl (fun a c => a * 64 + c.toNat - 128) v
  | 0, v, l, u, h => ⟨[], rfl, rfl, (fun c hc => by simp at hc), by injection h with h; exact h.symm⟩
  | k + 1, _, [], _, h => by simp [cont8] at h
  | k + 1, v, c :: l, u, h => by
    rw [cont8] at h
    split at h
    · rename_i hc
      obtain ⟨x, h1, h2, h3, h4⟩ := cont8_take k _ l u h
      have h5 : c :: l = c :: (x ++ l.drop k) := congrArg (List.cons c) h2
      refine ⟨c :: x, by simp [h1], h5, ?_, by rw [List.foldl_cons]; exact h4⟩
      intro d hd
      rcases List.mem_cons.1 hd with rfl | hd
      · exact hc
      · exact h3 d hd
    · cases h
theorem u8_eq {c : UInt8} {n : Nat} (h : c.toNat = n) : UInt8.ofNat n = c := by
  rw [← h]
  exact UInt8.ofNat_toNat
theorem list1 {x : List UInt8} (h : x.length = 1) : ∃ c, x = [c] := by
  match x, h with
  | [c], _ => exact ⟨c, rfl⟩
theorem list2 {x : List UInt8} (h : x.length = 2) : ∃ c d, x = [c, d] := by
  match x, h with
  | [c, d], _ => exact ⟨c, d, rfl⟩
theorem list3 {x : List UInt8} (h : x.length = 3) : ∃ c d e, x = [c, d, e] := by
  match x, h with
  | [c, d, e], _ => exact ⟨c, d, e, rfl⟩
/-- What is read as a code point are this code point's bytes. -/
theorem txt_one8 {b : UInt8} {l : List UInt8} {u k : Nat} (h : one8 b l = some (u, k)) : ptN u = true ∧ k ≤ l.length ∧ txt8 u ++ l.drop k = b :: l := by
  unfold one8 at h
  cases hL : lead8 b.toNat with
  | none => rw [hL] at h; cases h
  | some q =>
    obtain ⟨k', v, least⟩ := q
    rw [hL] at h
    simp only [] at h
    cases hC : cont8 k' v l with
    | none => rw [hC] at h; cases h
    | some u' =>
      rw [hC] at h
      simp only [] at h
      split at h
      · cases h
      · rename_i hno
        injection h with h
        injection h with e1 e2
        subst e1 e2
        have hpt : ptN u' = true := by cases hh : ptN u' with
          | true => rfl
          | false => exact absurd (.inr hh) hno
        have hls : least ≤ u' := by
          by_cases hlt : u' < least
          · exact absurd (.inl hlt) hno
          · omega
        refine ⟨hpt, cont8_drop _ _ _ _ hC, ?_⟩
        obtain ⟨x, hx, hl, hr, hu⟩ := cont8_take _ _ _ _ hC
        have hb := b.toNat_lt
        suffices hs : txt8 u' = b :: x by rw [hs, List.cons_append, ← hl]
        clear hC hno hl
        unfold lead8 at hL
        split at hL
        · rename_i h1
          obtain ⟨e1, e23⟩ := Prod.mk.inj (Option.some.inj hL)
          obtain ⟨e2, e3⟩ := Prod.mk.inj e23
          subst e1 e2 e3
          obtain rfl : x = [] := List.eq_nil_of_length_eq_zero hx
          have hu' : u' = b.toNat := hu
          unfold txt8
          rw [if_pos (by omega), hu', UInt8.ofNat_toNat]
        · rename_i h1
          split at hL
          · rename_i h2
            obtain ⟨e1, e23⟩ := Prod.mk.inj (Option.some.inj hL)
            obtain ⟨e2, e3⟩ := Prod.mk.inj e23
            subst e1 e2 e3
            obtain ⟨c, rfl⟩ := list1 hx
            have r1 := hr c (by simp)
            have hu' : u' = (b.toNat - 192) * 64 + c.toNat - 128 := hu
            unfold txt8
            rw [if_neg (by omega), if_pos (by omega), u8_eq (c := b) (by omega), u8_eq (c := c) (by omega)]
          · rename_i h2
            split at hL
            · rename_i h3
              obtain ⟨e1, e23⟩ := Prod.mk.inj (Option.some.inj hL)
              obtain ⟨e2, e3⟩ := Prod.mk.inj e23
              subst e1 e2 e3
              obtain ⟨c, d, rfl⟩ := list2 hx
              have r1 := hr c (by simp)
              have r2 := hr d (by simp)
              have hu' : u' = ((b.toNat - 224) * 64 + c.toNat - 128) * 64 + d.toNat - 128 := hu
              unfold txt8
              rw [if_neg (by omega), if_neg (by omega), if_pos (by omega), u8_eq (c := b) (by omega), u8_eq (c := c) (by omega), u8_eq (c := d) (by omega)]
            · rename_i h3
              split at hL
              · rename_i h4
                obtain ⟨e1, e23⟩ := Prod.mk.inj (Option.some.inj hL)
                obtain ⟨e2, e3⟩ := Prod.mk.inj e23
                subst e1 e2 e3
                obtain ⟨c, d, f, rfl⟩ := list3 hx
                have r1 := hr c (by simp)
                have r2 := hr d (by simp)
                have r3 := hr f (by simp)
                have hu' : u' = (((b.toNat - 240) * 64 + c.toNat - 128) * 64 + d.toNat - 128) * 64 + f.toNat - 128 := hu
                have hle := ptN_le hpt
                unfold txt8
                rw [if_neg (by omega), if_neg (by omega), if_neg (by omega), u8_eq (c := b) (by omega), u8_eq (c := c) (by omega), u8_eq (c := d) (by omega), u8_eq (c := f) (by omega)]
              · cases hL
theorem txt_ptsGo : ∀ (f : Nat) (l : List UInt8) (P : List Nat), ptsGo f l = some P → (∀ p ∈ P, ptN p = true) ∧ txtL P = l
  | f, [], P, h => by
    have : P = [] := by cases f <;> (injection h with h; exact h.symm)
    subst this
    exact ⟨fun p hp => by simp at hp, rfl⟩
  | 0, b :: l, P, h => by simp [ptsGo] at h
  | f + 1, b :: l, P, h => by
    rw [ptsGo] at h
    cases ho : one8 b l with
    | none => rw [ho] at h; cases h
    | some x =>
      obtain ⟨u, k⟩ := x
      rw [ho] at h
      simp only [] at h
      cases hg : ptsGo f (l.drop k) with
      | none => rw [hg] at h; cases h
      | some Q =>
        rw [hg] at h
        injection h with h
        subst h
        obtain ⟨i1, i2⟩ := txt_ptsGo f _ Q hg
        obtain ⟨o1, _, o3⟩ := txt_one8 ho
        refine ⟨?_, ?_⟩
        · intro p hp
          rcases List.mem_cons.1 hp with rfl | hp
          · exact o1
          · exact i1 p hp
        · show txt8 u ++ txtL Q = _
          rw [i2, o3]
theorem txt_pts {l : List UInt8} {P : List Nat} (h : ptsL l = some P) : (∀ p ∈ P, ptN p = true) ∧ txtL P = l := txt_ptsGo _ l P h

theorem txt8_len (p : Nat) : 1 ≤ (txt8 p).length ∧ (128 ≤ p → 2 ≤ (txt8 p).length) ∧ (p < 128 → (txt8 p).length = 1) ∧ (txt8 p).length ≤ 4 := by
  unfold txt8
  split
  · exact ⟨Nat.le_refl _, fun _ => by omega, fun _ => rfl, by simp⟩
  · split
    · exact ⟨by simp, fun _ => by simp, fun _ => by omega, by simp⟩
    · split
      · exact ⟨by simp, fun _ => by simp, fun _ => by omega, by simp⟩
      · exact ⟨by simp, fun _ => by simp, fun _ => by omega, by simp⟩
theorem txtL_len : ∀ (P : List Nat), P.length ≤ (txtL P).length ∧ ((∃ p ∈ P, 128 ≤ p) → P.length < (txtL P).length) ∧ ((∀ p ∈ P, p < 128) → P.length = (txtL P).length)
  | [] => ⟨Nat.le_refl _, (fun ⟨p, hp, _⟩ => by simp at hp), fun _ => rfl⟩
  | p :: P => by
    obtain ⟨i1, i2, i3⟩ := txtL_len P
    obtain ⟨a1, a2, a3, _⟩ := txt8_len p
    have e : (txtL (p :: P)).length = (txt8 p).length + (txtL P).length := by
      show (txt8 p ++ txtL P).length = _
      rw [List.length_append]
    rw [e, List.length_cons]
    refine ⟨by omega, ?_, ?_⟩
    · rintro ⟨q, hq, h⟩
      rcases List.mem_cons.1 hq with rfl | hq
      · have := a2 h; omega
      · have := i2 ⟨q, hq, h⟩; omega
    · intro h
      have h1 := a3 (h p (by simp))
      have h2 := i3 (fun q hq => h q (by simp [hq]))
      omega
theorem txtL_ascii : ∀ (l : List UInt8), (∀ b ∈ l, b.toNat < 128) → txtL (l.map UInt8.toNat) = l
  | [], _ => rfl
  | b :: l, h => by
    show txt8 b.toNat ++ txtL (l.map UInt8.toNat) = _
    rw [txtL_ascii l (fun c hc => h c (by simp [hc]))]
    unfold txt8
    rw [if_pos (h b (by simp)), UInt8.ofNat_toNat]
    rfl
theorem ptN_ascii {n : Nat} (h : n < 128) : ptN n = true := by
  unfold ptN
  simp
  omega
theorem pts_ascii {l : List UInt8} (h : ∀ b ∈ l, b.toNat < 128) : ptsL l = some (l.map UInt8.toNat) := by
  have h2 := pts_txt (l.map UInt8.toNat) (fun p hp => by obtain ⟨b, hb, rfl⟩ := List.mem_map.1 hp; exact ptN_ascii (h b hb))
  rw [txtL_ascii l h] at h2
  exact h2

/-- Small letters, of code points. -/
def lowP (p : Nat) : Nat := if 65 ≤ p ∧ p ≤ 90 then p + 32 else p
theorem lowU_small {b : UInt8} (h : b.toNat < 65 ∨ 90 < b.toNat) : lowU b = b := by
  refine UInt8.toNat_inj.1 ?_
  have := lowU_toNat b
  unfold lowI upperB at this
  have hb : (decide (65 ≤ (b.toNat : Int)) && decide ((b.toNat : Int) ≤ 90)) = false := by simp; omega
  rw [hb] at this
  simp at this
  omega
theorem lowU_big {b : UInt8} (h : 65 ≤ b.toNat ∧ b.toNat ≤ 90) : (lowU b).toNat = b.toNat + 32 := by
  have := lowU_toNat b
  unfold lowI upperB at this
  have hb : (decide (65 ≤ (b.toNat : Int)) && decide ((b.toNat : Int) ≤ 90)) = true := by simp; omega
  rw [hb] at this
  simp at this
  omega
theorem lowU_nat (b : UInt8) : (lowU b).toNat = lowP b.toNat := by
  unfold lowP
  split
  · rename_i h; exact lowU_big h
  · rename_i h; rw [lowU_small (by omega)]
theorem cont8_low : ∀ (k v : Nat) (l : List UInt8), cont8 k v (lowL l) = cont8 k v l
  | 0, _, _ => rfl
  | _ + 1, _, [] => rfl
  | k + 1, v, c :: l => by
    show (if 128 ≤ (lowU c).toNat ∧ (lowU c).toNat ≤ 191 then cont8 k (v * 64 + (lowU c).toNat - 128) (lowL l) else none) = _
    rw [cont8_low, cont8]
    by_cases h : 65 ≤ c.toNat ∧ c.toNat ≤ 90
    · have := lowU_big h
      rw [if_neg (by omega), if_neg (by omega)]
    · rw [lowU_small (by omega)]
theorem lowP_pt {p : Nat} (h : ptN p = true) : ptN (lowP p) = true := by
  unfold lowP
  split
  · exact ptN_ascii (by omega)
  · exact h
theorem one8_low (b : UInt8) (l : List UInt8) : one8 (lowU b) (lowL l) = (one8 b l).map fun x => (lowP x.1, x.2) := by
  unfold one8
  by_cases h : 65 ≤ b.toNat ∧ b.toNat ≤ 90
  · have hb := lowU_big h
    have l1 : lead8 (lowU b).toNat = some (0, b.toNat + 32, 0) := by unfold lead8; rw [hb, if_pos (by omega)]
    have l2 : lead8 b.toNat = some (0, b.toNat, 0) := by unfold lead8; rw [if_pos (by omega)]
    rw [l1, l2]
    simp only [cont8]
    rw [if_neg (by rw [ptN_ascii (by omega)]; simp), if_neg (by rw [ptN_ascii (by omega)]; simp)]
    show some (b.toNat + 32, 0) = some (lowP b.toNat, 0)
    unfold lowP
    rw [if_pos h]
  · rw [lowU_small (by omega)]
    cases hL : lead8 b.toNat with
    | none => rfl
    | some q =>
      obtain ⟨k, v, least⟩ := q
      simp only [cont8_low]
      cases hC : cont8 k v l with
      | none => rfl
      | some u =>
        simp only []
        split
        · rfl
        · rename_i hno
          show some (u, k) = some (lowP u, k)
          have hu : lowP u = u := by
            unfold lowP
            rw [if_neg]
            intro hc
            unfold lead8 at hL
            split at hL
            · obtain ⟨e1, e23⟩ := Prod.mk.inj (Option.some.inj hL)
              obtain ⟨e2, e3⟩ := Prod.mk.inj e23
              subst e1 e2 e3
              injection hC with hC
              omega
            · have : 128 ≤ least := by
                split at hL
                · have e3 := (Prod.mk.inj (Prod.mk.inj (Option.some.inj hL)).2).2; omega
                · split at hL
                  · have e3 := (Prod.mk.inj (Prod.mk.inj (Option.some.inj hL)).2).2; omega
                  · split at hL
                    · have e3 := (Prod.mk.inj (Prod.mk.inj (Option.some.inj hL)).2).2; omega
                    · cases hL
              exact hno (.inl (by omega))
          rw [hu]
theorem ptsGo_low : ∀ (f : Nat) (l : List UInt8), ptsGo f (lowL l) = (ptsGo f l).map (List.map lowP)
  | f, [] => by cases f <;> rfl
  | 0, b :: l => rfl
  | f + 1, b :: l => by
    show (match one8 (lowU b) (lowL l) with
      | none => none
      | some (u, k) => (ptsGo f ((lowL l).drop k)).map (u :: ·)) = _
    rw [one8_low, ptsGo]
    cases one8 b l with
    | none => rfl
    | some x =>
      obtain ⟨u, k⟩ := x
      show (ptsGo f ((lowL l).drop k)).map (lowP u :: ·) = ((ptsGo f (l.drop k)).map (u :: ·)).map (List.map lowP)
      have e : (lowL l).drop k = lowL (l.drop k) := by unfold lowL; rw [List.map_drop]
      rw [e, ptsGo_low f (l.drop k)]
      cases ptsGo f (l.drop k) with
      | none => rfl
      | some Q => rfl
theorem pts_low (l : List UInt8) : ptsL (lowL l) = (ptsL l).map (List.map lowP) := by
  unfold ptsL
  rw [lowL_length]
  exact ptsGo_low _ l
theorem lowP_lowP (p : Nat) : lowP (lowP p) = lowP p := by
  unfold lowP
  split
  · rw [if_neg (by omega)]
  · rfl
theorem lowP_map (P : List Nat) : (P.map lowP).map lowP = P.map lowP := by
  rw [List.map_map]
  exact List.map_congr_left fun p _ => lowP_lowP p
end

end Go.Proofs.YtpccpgihldpiiaaGreatDoor
