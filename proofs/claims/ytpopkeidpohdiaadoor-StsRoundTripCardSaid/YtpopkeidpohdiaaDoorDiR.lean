/-
  Laws of the lists of directives: what is formatted is read back; what is read is valid. No program.
-/
import Derived.Test.YtpopkeidpohdiaaDoorDiQ
namespace Go.Proofs.YtpopkeidpohdiaaDoor
open Go.RowKit

theorem pr_quoted : ∀ (l r acc : List UInt8), l.all inU = true → pr false (escL l ++ 34 :: r) acc = some (acc ++ l, r)
  | [], r, acc, _ => by
    rw [show escL ([] : List UInt8) = [] from rfl, List.nil_append, pr, if_neg (by decide), if_pos ⟨rfl, rfl⟩, List.append_nil]
  | c :: l, r, acc, h => by
    rw [List.all_cons, Bool.and_eq_true] at h
    have e : escL (c :: l) = esc1 c ++ escL l := by simp [escL]
    have ih := pr_quoted l r (acc ++ [c]) h.2
    have hin : ¬ inU c = false := by rw [h.1]; decide
    by_cases hc : c = 34 ∨ c = 92
    · rw [e, esc1_yes c hc, show [92, c] ++ escL l ++ 34 :: r = 92 :: (c :: (escL l ++ 34 :: r)) from rfl, pr, if_neg (by decide), if_neg (by decide), if_pos ⟨rfl, rfl⟩, pr, if_neg hin, if_neg (by simp), if_neg (by simp), ih]
      simp
    · rw [e, esc1_no c hc, show [c] ++ escL l ++ 34 :: r = c :: (escL l ++ 34 :: r) from rfl, pr, if_neg hin, if_neg (fun x => hc (.inl x.2)), if_neg (fun x => hc (.inr x.2)), ih]
      simp
theorem all_takeWhile {p : UInt8 → Bool} : ∀ l : List UInt8, l.all p = true → l.takeWhile p = l ∧ l.dropWhile p = []
  | [], _ => ⟨rfl, rfl⟩
  | c :: l, h => by
    rw [List.all_cons, Bool.and_eq_true] at h
    obtain ⟨h1, h2⟩ := all_takeWhile l h.2
    rw [List.takeWhile_cons, List.dropWhile_cons, h.1, if_pos rfl, if_pos rfl, h1, h2]
    exact ⟨rfl, rfl⟩
theorem tok_blk (c : UInt8) (h : tokU c = true) : blankU c = false ∧ c ≠ 59 ∧ c ≠ 61 ∧ c ≠ 34 := by
  have key : ∀ n : Fin 256, tokenB ((n.val : Nat) : Int) = true → blankB ((n.val : Nat) : Int) = false ∧ n.val ≠ 59 ∧ n.val ≠ 61 ∧ n.val ≠ 34 := by decide +kernel
  have hk := key ⟨c.toNat, c.toNat_lt⟩ h
  exact ⟨hk.1, fun e => hk.2.1 (by rw [e]; rfl), fun e => hk.2.2.1 (by rw [e]; rfl), fun e => hk.2.2.2 (by rw [e]; rfl)⟩
theorem skL_head {c : UInt8} {l : List UInt8} (h : blankU c = false) : skL (c :: l) = c :: l := by
  unfold skL
  rw [List.dropWhile_cons, h]
  rfl
theorem tokens_cons {l : List UInt8} (h : l.all tokU = true) (hne : l ≠ []) : ∃ c r, l = c :: r ∧ tokU c = true ∧ r.all tokU = true := by
  cases l with
  | nil => exact absurd rfl hne
  | cons c r =>
    rw [List.all_cons, Bool.and_eq_true] at h
    exact ⟨c, r, rfl, h.1, h.2⟩
/-- What may stand behind an element: nothing, or a semicolon. -/
def Behind (y : List UInt8) : Prop := y = [] ∨ ∃ r, y = 59 :: r
theorem Behind.tok {y : List UInt8} (h : Behind y) : Ends tokU y := h.elim .inl fun ⟨r, e⟩ => e ▸ semi_tok r
theorem Behind.blk {y : List UInt8} (h : Behind y) : Ends blankU y := h.elim .inl fun ⟨r, e⟩ => e ▸ semi_blk r
theorem Behind.sk {y : List UInt8} (h : Behind y) : skL y = y := by
  rcases h with rfl | ⟨r, rfl⟩
  · rfl
  · exact skL_head (by decide +kernel)
theorem Behind.ne {y : List UInt8} (h : Behind y) : ∀ t, y ≠ 61 :: t := by
  rcases h with rfl | ⟨r, rfl⟩
  · intro t e; cases e
  · intro t e
    injection e with e _
    cases e
theorem valL_text {v y : List UInt8} (hv : v.all inU = true) (hy : Behind y) : valL (valT v ++ y) = some (v, y) := by
  unfold valT
  split
  · rename_i h
    rw [Bool.and_eq_true] at h
    have hne : v ≠ [] := by
      intro e
      rw [e] at h
      simp at h
    have ht := all_takeWhile v h.2
    obtain ⟨c, r, hc, hct, _⟩ := tokens_cons h.2 hne
    have h34 : ∀ t, v ++ y ≠ 34 :: t := by
      intro t e
      rw [hc, List.cons_append] at e
      injection e with e _
      exact (tok_blk c hct).2.2.2 e
    unfold valL
    split
    · rename_i t e
      exact absurd e (h34 t)
    · rw [takeWhile_app hy.tok, dropWhile_app hy.tok, ht.1, ht.2, if_neg hne]
      rfl
  · rw [quoL, List.cons_append, List.append_assoc]
    show pr false (escL v ++ ([34] ++ y)) [] = _
    rw [show [34] ++ y = 34 :: y from rfl, pr_quoted v y [] hv]
    rfl
theorem valT_head (v : List UInt8) (y : List UInt8) : skL (valT v ++ y) = valT v ++ y := by
  unfold valT
  split
  · rename_i h
    rw [Bool.and_eq_true] at h
    have hne : v ≠ [] := by
      intro e
      rw [e] at h
      simp at h
    obtain ⟨c, r, hc, hct, _⟩ := tokens_cons h.2 hne
    rw [hc, List.cons_append]
    exact skL_head (tok_blk c hct).1
  · exact skL_head (by decide +kernel)
theorem elemL_text {d : Dv} {y : List UInt8} (hd : d.ok = true) (hy : Behind y) : elemL (d.text ++ y) = some (d, y) := by
  unfold Dv.ok at hd
  simp only [Bool.and_eq_true, decide_eq_true_eq] at hd
  obtain ⟨⟨⟨⟨h1, h2⟩, h3⟩, h4⟩, h5⟩ := hd
  obtain ⟨n, v, b⟩ := d
  simp only at h1 h2 h3 h4 h5
  have hne : n ≠ [] := by
    intro e
    rw [e] at h1
    simp at h1
  have ht := all_takeWhile n h2
  cases b with
  | false =>
    have hv : v = [] := by simpa using h4
    unfold elemL Dv.text
    simp only [Bool.false_eq_true, if_false, List.append_nil]
    rw [takeWhile_app hy.tok, dropWhile_app hy.tok, ht.1, ht.2, List.nil_append, if_neg hne, hy.sk, elemT_ne _ _ hy.ne, h3, hv]
  | true =>
    have he : Ends tokU (61 :: (valT v ++ y)) := .inr ⟨61, _, rfl, by decide +kernel⟩
    have hb : blankU 61 = false := by decide +kernel
    unfold elemL Dv.text
    simp only [if_true]
    rw [List.append_assoc, List.cons_append, takeWhile_app he, dropWhile_app he, ht.1, ht.2, List.nil_append, if_neg hne, skL_head hb, elemT_eq, valT_head, valL_text h5 hy]
    simp [h3]
theorem dirGo_text : ∀ (l : List Dv) (n : Nat) (acc : List Dv), (∀ d ∈ l, d.ok = true) → acc.length + l.length ≤ 32 → (dirT l).length < n → dirGo n (dirT l) acc = (acc ++ l, 0)
  | [], 0, _, _, _, h => absurd h (by omega)
  | [], n + 1, acc, _, _, _ => by
    rw [dirGo, dirT]
    show (acc, 0) = _
    rw [List.append_nil]
  | _ :: _, 0, _, _, _, h => absurd h (by omega)
  | d :: l, n + 1, acc, hl, h32, hn => by
    have hd := hl d (by simp)
    simp only [List.length_cons] at h32
    have hne : d.name ≠ [] := by
      intro e
      unfold Dv.ok at hd
      rw [e] at hd
      simp at hd
    have hta : d.name.all tokU = true := by
      unfold Dv.ok at hd
      simp only [Bool.and_eq_true] at hd
      exact hd.1.1.1.2
    obtain ⟨c, r, hc, hct, _⟩ := tokens_cons hta hne
    obtain ⟨hcb, hc59, _, _⟩ := tok_blk c hct
    have key : ∀ y, Behind y → ∃ z, d.text ++ y = c :: z ∧ skL (d.text ++ y) = c :: z := by
      intro y _
      refine ⟨r ++ (if d.has then 61 :: valT d.value else []) ++ y, ?_, ?_⟩
      · unfold Dv.text
        rw [hc]
        simp
      · unfold Dv.text
        rw [hc]
        rw [show c :: r ++ (if d.has then 61 :: valT d.value else []) ++ y = c :: (r ++ (if d.has then 61 :: valT d.value else []) ++ y) by simp]
        exact skL_head hcb
    cases l with
    | nil =>
      rw [dirGo, dirT]
      obtain ⟨z, e1, e2⟩ := key [] (.inl rfl)
      rw [List.append_nil] at e1 e2
      have e3 := elemL_text hd (y := []) (.inl rfl)
      rw [List.append_nil, e1] at e3
      rw [e2]
      simp only
      rw [if_neg hc59, if_neg (by omega), e3]
      rfl
    | cons d2 l =>
      rw [dirGo, dirT]
      obtain ⟨z, e1, e2⟩ := key (59 :: 32 :: dirT (d2 :: l)) (.inr ⟨_, rfl⟩)
      have e3 := elemL_text hd (y := 59 :: 32 :: dirT (d2 :: l)) (.inr ⟨_, rfl⟩)
      rw [e1] at e3
      rw [e2]
      simp only
      rw [if_neg hc59, if_neg (by omega), e3]
      simp only
      rw [skL_head (by decide +kernel)]
      show (if (59 : UInt8) = 59 then dirGo n (32 :: dirT (d2 :: l)) (acc ++ [d]) else _) = _
      rw [if_pos rfl]
      have hlen : (dirT (d :: d2 :: l)).length = d.text.length + (dirT (d2 :: l)).length + 2 := by
        rw [dirT]
        simp
        omega
      have ih := dirGo_text (d2 :: l) n (acc ++ [d]) (fun x hx => hl x (by simp at hx ⊢; exact .inr hx)) (by simp at h32 ⊢; omega) (by omega)
      have hsp : dirGo n (32 :: dirT (d2 :: l)) (acc ++ [d]) = dirGo n (dirT (d2 :: l)) (acc ++ [d]) := by
        cases n with
        | zero => rfl
        | succ n =>
          rw [dirGo, dirGo]
          rw [show skL (32 :: dirT (d2 :: l)) = skL (dirT (d2 :: l)) from by
            unfold skL
            rw [List.dropWhile_cons, show blankU 32 = true by decide +kernel, if_pos rfl]]
      rw [hsp, ih]
      simp
theorem dirL_text {l : List Dv} (h : dirOk l = true) (hz : (dirT l).length ≤ 4096) : dirL (dirT l) = (l, 0) := by
  unfold dirOk at h
  rw [Bool.and_eq_true, decide_eq_true_eq, List.all_eq_true] at h
  unfold dirL
  rw [if_neg (by omega), dirGo_text l _ [] h.1 (by simpa using h.2) (by omega)]
  rfl

/-! ### what is read is valid -/
theorem pr_in : ∀ (l : List UInt8) (esc : Bool) (acc : List UInt8) {v r : List UInt8}, acc.all inU = true → pr esc l acc = some (v, r) → v.all inU = true
  | [], esc, acc, v, r, _, h => by rw [pr] at h; cases h
  | c :: l, esc, acc, v, r, ha, h => by
    rw [pr] at h
    split at h
    · cases h
    · rename_i h1
      split at h
      · injection h with h
        injection h with h2 _
        rw [← h2]
        exact ha
      · split at h
        · exact pr_in l true acc ha h
        · refine pr_in l false (acc ++ [c]) ?_ h
          rw [List.all_append, ha]
          simp
          cases hc : inU c with
          | true => rfl
          | false => exact absurd hc h1
theorem low_tok (c : UInt8) (h : tokU c = true) : tokU (lowU c) = true := by
  have key : ∀ n : Fin 256, tokU (UInt8.ofNat n.val) = true → tokU (lowU (UInt8.ofNat n.val)) = true := by decide +kernel
  have := key ⟨c.toNat, c.toNat_lt⟩
  simp only [UInt8.ofNat_toNat] at this
  exact this h
theorem elemL_ok {l r : List UInt8} {d : Dv} (h : elemL l = some (d, r)) : d.ok = true := by
  unfold elemL at h
  have hall := takeWhile_all tokU l
  split at h
  · cases h
  · rename_i ht
    have hn : ∀ v b, (b = true ∨ v = []) → v.all inU = true → (Dv.mk (lowL (l.takeWhile tokU)) v b).ok = true := by
      intro v b hb hv
      unfold Dv.ok
      simp only [Bool.and_eq_true, decide_eq_true_eq]
      refine ⟨⟨⟨⟨?_, ?_⟩, lowL_lowL _⟩, ?_⟩, hv⟩
      · cases hz : l.takeWhile tokU with
        | nil => exact absurd hz ht
        | cons a z => rfl
      · unfold lowL
        rw [List.all_map, List.all_eq_true]
        intro c hc
        exact low_tok c ((List.all_eq_true.1 hall) c hc)
      · rcases hb with rfl | rfl
        · rfl
        · simp
    rcases elemT_two (skL (l.dropWhile tokU)) with ⟨q, hq⟩ | hq
    · rw [hq, elemT_eq] at h
      cases hv : valL (skL q) with
      | none => rw [hv] at h; cases h
      | some p =>
        obtain ⟨v, t⟩ := p
        rw [hv] at h
        simp at h
        rw [← h.1]
        refine hn v true (.inl rfl) ?_
        unfold valL at hv
        split at hv
        · exact pr_in _ _ _ rfl hv
        · split at hv
          · cases hv
          · injection hv with hv
            injection hv with hv _
            rw [← hv]
            exact (tok_esc _ (takeWhile_all tokU _)).2
    · rw [elemT_ne _ _ hq] at h
      injection h with h
      injection h with h _
      rw [← h]
      exact hn [] false (.inr rfl) rfl
theorem dirGo_ok : ∀ (n : Nat) (b : List UInt8) (acc l : List Dv), acc.all Dv.ok = true → acc.length ≤ 32 → dirGo n b acc = (l, 0) → l.all Dv.ok = true ∧ l.length ≤ 32
  | 0, _, _, _, _, _, h => by rw [dirGo] at h; injection h with h1 h2; cases h2
  | n + 1, b, acc, l, ha, hc, h => by
    rw [dirGo] at h
    split at h
    · injection h with h1 h2
      rw [← h1]
      exact ⟨ha, hc⟩
    · split at h
      · exact dirGo_ok n _ acc l ha hc h
      · split at h
        · injection h with h1 h2; cases h2
        · rename_i h32
          split at h
          · injection h with h1 h2; cases h2
          · rename_i d q he
            have hok := elemL_ok he
            have ha2 : (acc ++ [d]).all Dv.ok = true := by rw [List.all_append, ha]; simp [hok]
            have hc2 : (acc ++ [d]).length ≤ 32 := by simp; omega
            split at h
            · injection h with h1 h2
              rw [← h1]
              exact ⟨ha2, hc2⟩
            · split at h
              · exact dirGo_ok n _ _ l ha2 hc2 h
              · injection h with h1 h2; cases h2
theorem dirL_ok {b : List UInt8} {l : List Dv} (h : dirL b = (l, 0)) : dirOk l = true := by
  unfold dirL at h
  split at h
  · injection h with h1 h2; cases h2
  · obtain ⟨h1, h2⟩ := dirGo_ok _ _ _ _ rfl (by simp) h
    unfold dirOk
    rw [h1, decide_eq_true h2]
    rfl

end Go.Proofs.YtpopkeidpohdiaaDoor
