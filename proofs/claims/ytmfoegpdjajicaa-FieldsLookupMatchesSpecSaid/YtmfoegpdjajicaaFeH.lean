/-
  slices.AppendSeq and slices.Collect at strings, and the program's All of package fields.
-/
import Derived.Test.YtmfoegpdjajicaaFeE
import Derived.RangeFuncLeaves
import Derived.Maps.OwnIn
namespace Go.Proofs.Ytmfoegpdjajicaa
open Go.RowKit Go.Shelf
attribute [local go_sem] Oper.semAt_some

/-- A list of strings in its box. -/
def ownL (n0 : Nat) (v : Value) : Nat → Prop := fun k => k = n0 ∨ some k = v.ownBlock
structure LB (w : World) (n0 : Nat) (l : List (List UInt8)) (v : Value) (W : World) : Prop where
  box : Boxed W n0 38 v
  row : W.ownsRow (n0 + 1) 9 1 v l.length (wv l)
  bel : Below n0 w W
  n0_ : n0 = w.heap.size
section
variable {w W W' : World} {n0 : Nat} {l : List (List UInt8)} {v : Value}
theorem LB.own_row (h : LB w n0 l v W) {g : Nat} (hg : v.ownBlock = some g) : n0 + 1 ≤ g ∧ g < W.heap.size := by
  rcases h.row.2 with ⟨rfl, _⟩ | ⟨g', cap, cur, rfl, hge, hgb, _⟩
  · simp [Value.ownBlock] at hg
  · obtain rfl : g' = g := by simpa [Value.ownBlock] using hg
    exact ⟨hge, (Array.getElem?_eq_some_iff.1 hgb).1⟩
theorem LB.bound (h : LB w n0 l v W) : ∀ k, ownL n0 v k → k < W.heap.size := by
  rintro k (rfl | hk)
  · exact h.box.lt
  · exact (h.own_row hk.symm).2
theorem LB.grow {row : Option Nat} (h : LB w n0 l v W) (hg : W.grownBy W' row) (hr : ∀ r, row = some r → n0 + 1 ≤ r ∧ ¬ ownL n0 v r) : LB w n0 l v W' := by
  refine ⟨h.box.kept hg (fun e => by have := (hr n0 e.symm).1; omega), h.row.kept hg ?_, h.bel.grown hg (by rw [h.n0_]; exact h.bel.size) (fun k e => by have := (hr k e).1; omega), h.n0_⟩
  cases hv : v.ownBlock with
  | none => exact .inl rfl
  | some g => exact .inr fun e => (hr g e.symm).2 (.inr hv.symm)
theorem LB.start (w : World) : LB w w.heap.size [] (.slice none 0 0) (w.alloc (.cells #[.slice none 0 0] 38)) :=
  ⟨Boxed.new _ _ _, World.ownsRow_nil _ _ _ _, (Below.refl _ w).alloc (Nat.le_refl _) _, rfl⟩
theorem LB.app {w5 : World} {v' : Value} {tmp : Obj} {x : List UInt8} (h : LB w n0 l v W) (hown : w5.ownsRow (n0 + 1) 9 1 v' (l.length + 1) (wv l ++ [.string (bs x)])) (hg5 : (W.alloc tmp).grownBy w5 v.ownBlock)
    (hat : v'.ownBlock = v.ownBlock ∨ v'.ownBlock = some (W.alloc tmp).heap.size) :
    Boxed w5 n0 38 v ∧ LB w n0 (l ++ [x]) v' (w5.setCell ⟨n0, 0, none⟩ v') ∧ Grow (ownL n0 v) (ownL n0 v') W (w5.setCell ⟨n0, 0, none⟩ v') := by
  have hbig := h.box.lt
  have hz5 := hg5.size
  simp only [World.size_alloc] at hz5 hat
  have hge : ∀ g, v.ownBlock = some g → n0 + 1 ≤ g := fun g e => (h.own_row e).1
  have hge' : ∀ g, v'.ownBlock = some g → n0 + 1 ≤ g := fun g e => by
    rcases hat with ha | ha
    · exact hge g (ha ▸ e)
    · rw [ha] at e; cases e; omega
  have step : ∀ k, k < W.heap.size → some k ≠ v.ownBlock → w5.heap[k]? = W.heap[k]? := fun k hk hv => by
    rw [hg5.block k (by simp; omega) hv, Below.heap_alloc W tmp k (by omega)]
  have b5 : Boxed w5 n0 38 v := (step _ (by omega) (fun e => by have := hge n0 e.symm; omega)).trans h.box
  have fin : ∀ k, k ≠ n0 → (w5.setCell ⟨n0, 0, none⟩ v').heap[k]? = w5.heap[k]? := fun k hk => Below.heap_setCell _ _ _ k hk
  have hzf : w5.heap.size ≤ (w5.setCell ⟨n0, 0, none⟩ v').heap.size := (grownBy_setCell' w5 n0 v').size
  refine ⟨b5, ⟨b5.set v', ?_, ?_, h.n0_⟩, ⟨by omega, ?_, ?_⟩⟩
  · have := hown.kept (grownBy_setCell' w5 n0 v') (.inr (fun e => by have := hge' n0 e; omega))
    rw [List.length_append, List.length_singleton, ← wv_snoc]
    exact this
  · have hw := h.bel.size
    have e0 := h.n0_
    have b2 := h.bel.alloc (by omega) tmp
    have b3 := b2.grown hg5 (by simp; omega) (fun k e => by have := hge k e; omega)
    exact b3.setCell (p := ⟨n0, 0, none⟩) (Nat.le_refl _) v'
  · intro k hk hc
    have h2 : k ≠ n0 := fun e => hc (.inl e)
    have h3 : some k ≠ v.ownBlock := fun e => hc (.inr e)
    exact (fin k h2).trans (step k hk h3)
  · rintro k (rfl | hk)
    · exact .inl (.inl rfl)
    · rcases hat with ha | ha
      · exact .inl (.inr (hk.trans ha))
      · rw [ha] at hk
        cases hk
        exact .inr (by omega)
end
def LI (w : World) (n0 : Nat) (pre : List (List UInt8)) (C : Nat → Prop) (W : World) : Prop := ∃ v, LB w n0 pre v W ∧ C = ownL n0 v
theorem LI.std {w : World} {n0 B : Nat} (hB : n0 + 1 ≤ B) : Std B (LI w n0) := by
  rintro s C W W' row ⟨v, h, rfl⟩ hg hr
  exact ⟨v, h.grow hg (fun r e => ⟨by have := (hr r e).1; omega, (hr r e).2⟩), rfl⟩
theorem own_base {w : World} {base base' e size n : Nat} {v : Value} {xs : List Value} (h : w.ownsRow base e size v n xs) (hb : base' ≤ base) : w.ownsRow base' e size v n xs := by
  refine ⟨h.1, ?_⟩
  rcases h.2 with h1 | ⟨g, cap, cur, h1, h2, h3⟩
  · exact .inl h1
  · exact .inr ⟨g, cap, cur, h1, Nat.le_trans hb h2, h3⟩
theorem cell_one_new' (w : World) (v : Value) (t : TypeId) : ∀ j u, [v][j]? = some u → (w.alloc (.cells #[v] t)).cell? ((⟨w.heap.size, 0, none⟩ : Addr).add j) = some u := by
  intro j q hj
  match j, hj with
  | 0, hj => simp at hj; subst hj; simp [Addr.add, World.cell?_alloc_at _ _ _ _ rfl]
  | j + 1, hj => simp at hj

set_option maxRecDepth 100000 in
set_option maxHeartbeats 4000000 in
/-- AppendSeq(nil, seq). -/
theorem appSeq_any (gf : Nat) (lb : Array Value) (L : List (List UInt8)) (Kr : Nat → Prop) (w : World) (eg : ∀ args w, (callFunc gf args).run Try.prog w = .ok (.enter gf args) w) (hseq : ∀ W0, w.grownBy W0 none → SeqC Try.prog gf lb L Kr W0) (hKr : ∀ k, Kr k → k < w.heap.size) (hL : L.length ≤ 1000000) :
    Calls Try.prog 50 #[.slice none 0 0, .func (.func gf) #[] lb] w (ListPost L w) := by
  have h0 := LB.start w
  refine (callsIn_wide (n := 0)).1 ?_
  refine callsIn_of_wp_marks Try.func50 rfl trivial ?_ rfl
  simp only [Try.ntmps50, List.size_toArray, List.length_cons, List.length_nil, Nat.reduceAdd, Nat.reduceSub, Array.replicate_succ, Array.replicate_zero, List.push_toArray, List.append_toArray, List.nil_append, List.cons_append]
  gi_wp2
  obtain ⟨n0, hn0⟩ : ∃ x, x = w.heap.size := ⟨_, rfl⟩
  rw [← hn0] at h0 ⊢
  have hg1 := World.grownBy_alloc w (.cells #[.slice none 0 0] 38) none
  have hz1 : (w.alloc (.cells #[.slice none 0 0] 38)).heap.size = n0 + 1 := by rw [World.size_alloc, hn0]
  generalize w.alloc (.cells #[.slice none 0 0] 38) = W1 at *
  have hkb : ∀ k, Kr k → k < W1.heap.size ∧ ¬ ownL n0 (.slice none 0 0) k := fun k hk => by
    have := hKr k hk
    refine ⟨by omega, ?_⟩
    rintro (h | h)
    · omega
    · cases h
  obtain ⟨i0, hi, hz0, hy1, hz2⟩ := info_parts infoStr
  have HN0 := Lib.hid hn0
  have HKB := Lib.hid hkb
  clear hn0 hkb hKr
  refine wpIn_range_C (gf := gf) (lb := lb) rfl eg (L := L) (Kr := Kr) (fun W3 hg => hseq W3 (grownBy_trans hg1 hg)) rfl
    (LI w n0) (fun c _ C W => False) (ownL n0 (.slice none 0 0))
    (LI.std (by omega)) (fun c => std_pure _ _) (fun s C W h => by obtain ⟨v, h, rfl⟩ := h; exact h.bound) HKB.out
    ⟨_, h0, rfl⟩
    (fun x => { tmps := #[.slice none 0 0, .func (.func gf) #[] lb, .pointer (some ⟨n0, 0, none⟩), undef, .slice none 0 0, .string x, .func (.func gf) #[] lb, .string x, undef, undef, undef, undef, undef], defers := [] }) ?assign ?body ?done ?stop
  case assign =>
    intro l x W K hK
    clear hseq eg
    gi_wp2
    exact hK
  case stop =>
    intro D c pre C W _ _ _ h
    exact h.elim
  case done =>
    rintro D C W hD hnD ⟨v, hlb, rfl⟩ hK
    obtain ⟨A1, c1, rfl, hh, hc1⟩ := Has.of_own hlb.row
    have k0 := hlb.box.cell
    clear hseq eg hh
    gi_wp2
    have h' := hlb.grow (grownBy_putObj' W D (.deferred none)) (fun r e => by cases e; exact ⟨by omega, hnD⟩)
    have e0 := HN0.out
    subst e0
    refine ⟨by simp, .inl ⟨_, _, rfl, run_takeDeferred hK, ?_⟩⟩
    exact ⟨_, results_tmp rfl _ _ _, _, _, rfl, own_base h'.row (Nat.le_succ _), h'.bel⟩
  case body =>
    rintro lp pre x C W hlp hnl hrec hxs hpre ⟨v, hlb, rfl⟩
    have hpl : pre.length + 1 ≤ L.length := by
      have := hpre.length_le
      simpa using this
    obtain ⟨A1, c1, rfl, hh, hc1⟩ := Has.of_own hlb.row
    have k0 := hlb.box.cell
    have hr5 := hlb.row
    have hb0 := hlb.box.lt
    clear hseq eg hh
    gi_wp2_with (gi_at_builtin; refine wpListIn_append_own_at _ rfl _ _ 38 rfl (n0 + 1) 9 i0 (.string ByteArray.empty) 1 16 tyStrs hi hz0 hy1 hz2 rfl (by decide) _ _ _ rfl (hr5.alloc _) ⟨W.heap.size, 0, none⟩ 1 1 [.string x] rfl rfl (cell_one_new' _ _ _) (by simp [Value.oneCell']) (by unfold maxLen; omega) (by omega) (by simp; omega) ?_; intro v' w5 hown' hgrow _ hat; obtain ⟨g', cap', rfl⟩ := ownsRow_succ hown'; obtain ⟨p1, p2, p3⟩ := hlb.app (x := ls x) (by rw [bs_ls]; exact hown') hgrow hat; have q1 := p1.cell; have q2 := p1.frozen)
    exact ⟨_, p3, _, p2, rfl⟩

theorem collect_any (gf : Nat) (lb : Array Value) (L : List (List UInt8)) (Kr : Nat → Prop) (w : World) (eg : ∀ args w, (callFunc gf args).run Try.prog w = .ok (.enter gf args) w) (hseq : ∀ W0, w.grownBy W0 none → SeqC Try.prog gf lb L Kr W0) (hKr : ∀ k, Kr k → k < w.heap.size) (hL : L.length ≤ 1000000) :
    Calls Try.prog 35 #[.func (.func gf) #[] lb] w (ListPost L w) := by
  have ca := appSeq_any gf lb L Kr w eg hseq hKr hL
  clear hseq eg
  go_enter Try.func35, Try.ntmps35
  go_wp2_with fail
  refine ca.mono ?_
  rintro e w1 ⟨v, n, rfl, hown, hb⟩
  go_wp2
  go_ret
  exact ⟨_, _, rfl, hown, hb⟩

set_option maxHeartbeats 1000000 in
theorem fAll_any (A : Option Addr) (c : Nat) (l : List Fv) (s : ByteArray) (w : World) (hH : HasFd w w.heap.size A l.length l) (hl : l.length ≤ 1000000) (hs : s.size ≤ 1000000000) (hz : ∀ x ∈ l, x.name.length ≤ 1000000000 ∧ x.value.length ≤ 1000000000) :
    Calls Try.prog 20 #[.slice A l.length c, .string s] w (ListPost (fall l (ls s)) w) := by
  have cv := fun W => values_any A l.length c s W
  have hit := fun B W0 h1 h2 h3 => values_it B A c l s hs hl hz W0 h1 h2 h3
  have hfl := fall_len l (ls s)
  go_enter Try.func20, Try.ntmps20
  go_wp2_with fail
  refine (cv _).mono ?_
  rintro e w1 ⟨rfl, rfl⟩
  have g1 := (Below.refl w.heap.size w).alloc (Nat.le_refl _) (.cells #[.slice A l.length c] 25)
  have r1 := Boxed.new w 25 (.slice A l.length c)
  have r2 := Boxed.new (w.alloc (.cells #[.slice A l.length c] 25)) 9 (.string s)
  have r1' := r1.alloc (.cells #[.string s] 9)
  have g2 := g1.alloc g1.size (.cells #[.string s] 9)
  have hz2 : ((w.alloc (.cells #[.slice A l.length c] 25)).alloc (.cells #[.string s] 9)).heap.size = w.heap.size + 2 := by rw [World.size_alloc, World.size_alloc]
  rw [World.size_alloc] at r2
  generalize (w.alloc (.cells #[.slice A l.length c] 25)).alloc (.cells #[.string s] 9) = W2 at *
  have hH2 : HasFd W2 W2.heap.size A l.length l := (hH.below g2).more (by omega)
  have cc := collect_any 47 #[.pointer (some ⟨w.heap.size, 0, none⟩), .pointer (some ⟨w.heap.size + 1, 0, none⟩)] (fall l (ls s)) (krV w.heap.size A l.length) W2 (enters_of Try.func47 (by kernel_rfl) rfl)
    (fun W3 hg => hit w.heap.size W3 ((hg.block _ r1'.lt (by simp)).trans r1') ((hg.block _ r2.lt (by simp)).trans r2) ((hH2.keep fun p hp => World.cell?_of_block (w := W2) (hg.block p.block hp (by simp))).more hg.size))
    (by
      rintro k (rfl | ⟨h1, o, rfl⟩)
      · omega
      · obtain ⟨b, off, e, hb, _⟩ := hH.2 h1
        cases e
        omega) (by omega)
  clear cv hit r1 r1' r2 hH2 hH
  go_wp2_with fail
  refine cc.mono ?_
  rintro e w3 ⟨v, n, rfl, hown, hb⟩
  go_wp2
  go_ret
  exact ⟨_, _, rfl, own_base hown (by omega), g2.trans (hb.mono g2.size)⟩

end Go.Proofs.Ytmfoegpdjajicaa
