/-
  The program's names of package csp: an iterator over iterators.
-/
import Derived.Test.YtgilpheclmmolaaCsA
import Derived.Test.YtgilpheclmmolaaCspP
import Derived.Test.YtgilpheclmmolaaAsW
import Derived.Test.YtgilpheclmmolaaAsL
import Derived.Test.YtgilpheclmmolaaStC
import Derived.Test.YtgilpheclmmolaaAscJ
import Derived.RangeFuncLeaves
namespace Go.Proofs.Ytgilpheclmmolaa
open Go.RowKit Go.Shelf
attribute [local go_sem] Oper.semAt_some

/-- The names of the directives of a policy, and of a value. -/
def namesP (p : List UInt8) : List (List UInt8) := (splitL 59 p).filterMap nameD
def namesV (v : List UInt8) : List (List UInt8) := (splitL 44 v).flatMap namesP
theorem addP_names (c : Cv) (p : List UInt8) : addP c p = (namesP p).foldl addC c := by
  unfold addP namesP
  generalize splitL 59 p = ds
  induction ds generalizing c with
  | nil => rfl
  | cons d r ih =>
    rw [List.foldl_cons, ih, List.filterMap_cons]
    unfold addD
    cases nameD d <;> rfl
theorem addV_names (c : Cv) (v : List UInt8) : addV c v = (namesV v).foldl addC c := by
  unfold addV namesV
  generalize splitL 44 v = ps
  induction ps generalizing c with
  | nil => rfl
  | cons p r ih => rw [List.foldl_cons, ih, List.flatMap_cons, List.foldl_append, addP_names]
theorem flat_pre {a b : List (List UInt8)} (h : a <+: b) : a.flatMap namesP <+: b.flatMap namesP := by
  obtain ⟨t, rfl⟩ := h
  exact ⟨t.flatMap namesP, by rw [List.flatMap_append]⟩
theorem names_pre {v p : List UInt8} {pre ys : List (List UInt8)} (h : pre ++ [p] <+: splitL 44 v) (k : ys <+: splitL 59 p) : pre.flatMap namesP ++ ys.filterMap nameD <+: namesV v := by
  obtain ⟨t, ht⟩ := k
  have h1 := flat_pre h
  refine List.IsPrefix.trans ?_ h1
  refine ⟨t.filterMap nameD, ?_⟩
  rw [List.flatMap_append, List.append_assoc, ← List.filterMap_append, ht]
  simp [namesP]
theorem names_end (pre : List (List UInt8)) (p : List UInt8) : pre.flatMap namesP ++ (splitL 59 p).filterMap nameD = (pre ++ [p]).flatMap namesP := by
  rw [List.flatMap_append]
  simp [namesP]
theorem wordsFrom_length (l : List UInt8) : ∀ cur, (wordsFrom l cur).length ≤ l.length + 1 := by
  induction l with
  | nil => intro cur; unfold wordsFrom; split <;> simp
  | cons c l ih =>
    intro cur
    unfold wordsFrom
    have h1 := ih []
    have h2 := ih (cur ++ [c])
    split
    · split <;> simp <;> omega
    · simp; omega
theorem words_len (l : List UInt8) : (wordsL l).length ≤ l.length + 1 := wordsFrom_length l []
theorem word_short {l x : List UInt8} (h : x ∈ wordsL l) : x.length ≤ l.length := by have := wordsFrom_short l [] x h; simpa using this
theorem name_none {d : List UInt8} (h : wordsL d = []) : nameD d = none := by unfold nameD; rw [h]; rfl
theorem name_some {d w : List UInt8} {r : List (List UInt8)} (h : wordsL d = w :: r) : nameD d = some (lowL w) := by unfold nameD; rw [h]; rfl

theorem yield_bool {e : Ending} {R1 R2 : Prop} (h : (e = .returned (.bool true) ∧ R1) ∨ (e = .returned (.bool false) ∧ R2)) : ∃ q : Bool, e = .returned (.bool q) ∧ (if q = true then R1 else R2) := by
  rcases h with ⟨e1, e2⟩ | ⟨e1, e2⟩
  · exact ⟨true, e1, e2⟩
  · exact ⟨false, e1, e2⟩
theorem names_any (s : ByteArray) (w : World) : Calls Try.prog 17 #[.string s] w fun e w' =>
    e = .returned (.func (.func 19) #[] #[.pointer (some ⟨w.heap.size, 0, none⟩)]) ∧ w' = w.alloc (.cells #[.string s] 9) := by
  go_enter Try.func17, Try.ntmps17
  go_wp2
  go_ret
  exact ⟨rfl, rfl⟩

set_option maxRecDepth 100000 in
set_option maxHeartbeats 4000000 in
theorem names_it (B : Nat) (s : ByteArray) (hs : s.size ≤ 1000000000) (W0 : World) (h1 : Boxed W0 B 9 (.string s)) :
    SeqC Try.prog 19 #[.pointer (some ⟨B, 0, none⟩)] (namesV (ls s)) (fun _ => False) W0 := by
  intro l J Jx C0 hJ hJx hBd hK hY h0
  have hp := fun c W => parts_any s c W
  refine (callsIn_wide (n := 0)).1 ?_
  refine callsIn_of_wp_marks Try.func19 rfl trivial ?_ rfl
  simp only [Try.ntmps19, List.size_toArray, List.length_cons, List.length_nil, Nat.reduceAdd, Nat.reduceSub, Array.replicate_succ, Array.replicate_zero, List.push_toArray, List.append_toArray, List.nil_append, List.cons_append]
  have cB := h1.cell
  gi_wp2
  refine wpIn_wide.2 (wp_scope_straight ((wpIn_wide (n := 0)).1 (wpIn_seq (wpIn_label ?_))))
  have ry := Boxed.new W0 34 (.func (.yield l) #[] #[])
  have hj1 := hJ.alloc h0 (.cells #[.func (.yield l) #[] #[]] 34)
  have b1 : Boxed (W0.alloc (.cells #[.func (.yield l) #[] #[]] 34)) B 9 (.string s) := (((Below.refl W0.heap.size W0).alloc (Nat.le_refl _) _).block _ h1.lt).trans h1
  have hz : (W0.alloc (.cells #[.func (.yield l) #[] #[]] 34)).heap.size = W0.heap.size + 1 := by simp
  have hny : ¬ C0 W0.heap.size := fun h => by have := hBd _ _ _ h0 _ h; omega
  obtain ⟨by_, hby⟩ : ∃ b, b = W0.heap.size := ⟨_, rfl⟩
  rw [← hby] at ry hz hny ⊢
  generalize W0.alloc (.cells #[.func (.yield l) #[] #[]] 34) = W1 at *
  have HBY := Lib.hid hby
  have hJ' : Std (by_ + 1) J := hJ.from (by omega)
  have hJx' : Std (by_ + 1) Jx := hJx.from (by omega)
  clear cB h1 h0 hJ hJx hK hby
  have cB := b1.cell
  have two : ∀ (W : World) (x : ByteArray) (c : UInt8), Boxed ((W.alloc (.cells #[.string x] 9)).alloc (.cells #[.string ⟨#[c]⟩] 9)) W.heap.size 9 (.string x) ∧
      Boxed ((W.alloc (.cells #[.string x] 9)).alloc (.cells #[.string ⟨#[c]⟩] 9)) (W.heap.size + 1) 9 (.string ⟨#[c]⟩) ∧
      Below W.heap.size W ((W.alloc (.cells #[.string x] 9)).alloc (.cells #[.string ⟨#[c]⟩] 9)) ∧
      ((W.alloc (.cells #[.string x] 9)).alloc (.cells #[.string ⟨#[c]⟩] 9)).heap.size = W.heap.size + 2 := by
    intro W x c
    have g1 := (Below.refl W.heap.size W).alloc (Nat.le_refl _) (.cells #[.string x] 9)
    have r1 := Boxed.new W 9 (.string x)
    have r2 := Boxed.new (W.alloc (.cells #[.string x] 9)) 9 (.string ⟨#[c]⟩)
    have g2 := (Below.refl (W.alloc (.cells #[.string x] 9)).heap.size (W.alloc (.cells #[.string x] 9))).alloc (Nat.le_refl _) (.cells #[.string ⟨#[c]⟩] 9)
    rw [World.size_alloc] at r2
    exact ⟨(g2.block _ r1.lt).trans r1, r2, g1.trans (g2.mono g1.size), by simp⟩
  gi_wp2_with fail
  refine ⟨trivial, rfl, ?_⟩
  refine (callsIn_wide.2 (hp _ _)).mono ?_
  rintro e w1 ⟨rfl, rfl⟩
  gi_wp2_with fail
  obtain ⟨c1, c2, hb2, hz2⟩ := two W1 s 44
  have ry2 := (hb2.block _ ry.lt).trans ry
  have hj2 := hJ'.below hj1 (hb2.mono (Nat.le_refl _))
  have hC9 : ¬ C0 (by_ + 1 + 1) := fun h => by have := hBd _ _ _ hj1 _ h; omega
  rw [hz] at c1 c2 hz2
  generalize (W1.alloc (.cells #[.string s] 9)).alloc (.cells #[.string ⟨#[44]⟩] 9) = W2 at *
  clear hj1 b1 hz ry cB hb2 hp
  refine wpIn_range_C (gf := 25) (lb := #[.pointer (some ⟨by_ + 1, 0, none⟩), .pointer (some ⟨by_ + 1 + 1, 0, none⟩)]) rfl (enters_of Try.func25 (by kernel_rfl) rfl)
    (L := splitL 44 (ls s)) (Kr := fun k => k = by_ + 1 + 1) (fun W0 hg => parts_it (by_ + 1) 44 s hs W0 ((hg.block _ c1.lt (by simp)).trans c1) ((hg.block _ c2.lt (by simp)).trans c2)) rfl
    (fun pre C W => (J (pre.flatMap namesP) C W ∧ Boxed W by_ 34 (.func (.yield l) #[] #[])) ∧ ¬ C by_)
    (fun c _ C W => c = .exit 0 ∧ ∃ pre', pre' <+: namesV (ls s) ∧ Jx pre' C W) C0
    ((((hJ'.from (by omega)).comp _).and (std_box (by omega))).and (std_pure _ _))
    ?hIx (fun pre C W h => hBd _ _ _ h.1.1)
    (fun k hk => ⟨by have hk' : k = by_ + 1 + 1 := hk; omega, fun h => by have hk' : k = by_ + 1 + 1 := hk; subst hk'; exact hC9 h⟩)
    ⟨⟨hj2, ry2⟩, hny⟩
    (fun x => { tmps := #[.func (.yield l) #[] #[], .pointer (some ⟨B, 0, none⟩), .pointer (some ⟨by_, 0, none⟩), .string x, undef, undef, .string s, .func (.func 25) #[] #[.pointer (some ⟨by_ + 1, 0, none⟩), .pointer (some ⟨by_ + 1 + 1, 0, none⟩)], .string x, undef, undef, undef, undef, undef, undef, undef, undef, undef, undef, undef, undef, undef, undef, undef], defers := [] }) ?assign ?body ?done ?stop
  case hIx =>
    intro c s C W W' row hs hg hr
    obtain ⟨rfl, pre', h1, h2⟩ := hs
    exact ⟨rfl, pre', h1, hJx'.from (by omega) pre' C W W' row h2 hg hr⟩
  case assign =>
    intro l x W K hK
    gi_wp2
    exact hK
  case done =>
    intro D C W hD hnD hi hK
    have hj3 := (hJ'.from (show by_ + 1 ≤ W2.heap.size by omega)).put hi.1.1 hD hnD (.deferred none)
    gi_wp2
    refine ⟨by simp, .inl ⟨_, _, rfl, run_takeDeferred hK, ?_⟩⟩
    exact ⟨_, by simp [results, Try.f19, go_sem]; rfl, ⟨⟨_, rfl⟩, C, .inl hj3⟩⟩
  case stop =>
    rintro D c pre C W hD hnD hpre ⟨rfl, pre', h1, h2⟩ hK
    have hj3 := (hJx'.from (show by_ + 1 ≤ W2.heap.size by omega)).put h2 hD hnD (.deferred none)
    gi_wp2
    refine ⟨by simp, .inl ⟨_, _, rfl, run_takeDeferred hK, ?_⟩⟩
    exact ⟨_, by simp [results, Try.f19, go_sem]; rfl, ⟨⟨_, rfl⟩, C, .inr ⟨pre', h1, hj3⟩⟩⟩
  case body =>
    intro l1 pre p C W hl1 hnl hrec hps hpre hi
    obtain ⟨r1, hr1⟩ := hrec
    have hp := fun W => parts_any p 59 W
    gi_wp2_with fail
    refine ⟨trivial, rfl, ?_⟩
    refine (CallsIn.inRound l1 (callsIn_wide.2 (hp _))).mono ?_
    rintro e w1 ⟨rfl, rfl⟩
    gi_wp2_with fail
    obtain ⟨d1, d2, hb3, hz3⟩ := two W p 59
    obtain ⟨⟨hj, bx⟩, hn⟩ := hi
    have hW : W2.heap.size ≤ W.heap.size := by have := (Array.getElem?_eq_some_iff.1 hr1).1; omega
    have hlt1 := (Array.getElem?_eq_some_iff.1 hr1).1
    have hr3 := (hb3.block _ hlt1).trans hr1
    have bx3 : Boxed _ by_ 34 (.func (.yield l) #[] #[]) := (hb3.block _ bx.lt).trans bx
    have hj3 := hJ'.below hj (hb3.mono (Nat.le_refl _))
    have hg3 : Grow C C W ((W.alloc (.cells #[.string p] 9)).alloc (.cells #[.string ⟨#[59]⟩] 9)) := ⟨hb3.size, fun k hk _ => hb3.block k hk, fun _ h => .inl h⟩
    have hC8 : ¬ C (W.heap.size + 1) := fun h => by have := hBd _ _ _ hj _ h; omega
    generalize (W.alloc (.cells #[.string p] 9)).alloc (.cells #[.string ⟨#[59]⟩] 9) = W3 at *
    obtain ⟨B3, hB3⟩ : ∃ b, b = W.heap.size := ⟨_, rfl⟩
    rw [← hB3] at d1 d2 hz3 hC8 ⊢
    have hle3 : W.heap.size ≤ W3.heap.size := by omega
    clear hB3
    have hJ3 : Std W3.heap.size J := hJ'.from (by omega)
    have hJx3 : Std W3.heap.size Jx := hJx'.from (by omega)
    refine wpIn_range_CN hr3 (gf := 25) (lb := #[.pointer (some ⟨B3, 0, none⟩), .pointer (some ⟨B3 + 1, 0, none⟩)]) rfl (enters_of Try.func25 (by kernel_rfl) rfl)
      (L := splitL 59 (ls p)) (Kr := fun k => k = B3 + 1) (fun W0 hg => parts_it B3 59 p hps W0 ((hg.block _ d1.lt (by simp)).trans d1) ((hg.block _ d2.lt (by simp)).trans d2)) rfl
      (fun ys C' W' => ((J (pre.flatMap namesP ++ ys.filterMap nameD) C' W' ∧ Boxed W' by_ 34 (.func (.yield l) #[] #[])) ∧ ¬ C' by_) ∧ Grow C C' W W')
      (fun c _ C' W' => c = .exit 0 ∧ (∃ pre', pre' <+: namesV (ls s) ∧ Jx pre' C' W') ∧ Grow C C' W W') C
      ((((hJ3.comp _).and (std_box (by omega))).and (std_pure _ _)).and (std_grow (by omega)))
      ?hIx2 (fun ys C' W' h => hBd _ _ _ h.1.1.1)
      (fun k hk => ⟨by have hk' : k = B3 + 1 := hk; omega, fun h => by have hk' : k = B3 + 1 := hk; subst hk'; exact hC8 h⟩)
      ⟨⟨⟨by simpa using hj3, bx3⟩, hn⟩, hg3⟩
      (fun x => { tmps := #[.func (.yield l) #[] #[], .pointer (some ⟨B, 0, none⟩), .pointer (some ⟨by_, 0, none⟩), .string p, .string x, undef, .string s, .func (.func 25) #[] #[.pointer (some ⟨by_ + 1, 0, none⟩), .pointer (some ⟨by_ + 1 + 1, 0, none⟩)], .string p, .string p, .func (.func 25) #[] #[.pointer (some ⟨B3, 0, none⟩), .pointer (some ⟨B3 + 1, 0, none⟩)], .string x, undef, undef, undef, undef, undef, undef, undef, undef, undef, undef, undef, undef], defers := [] }) ?assign2 ?body2 ?done2 ?stop2
    case hIx2 =>
      intro c ys C' A A' row hs hg hr
      obtain ⟨rfl, ⟨pre', h1, h2⟩, h3⟩ := hs
      exact ⟨rfl, ⟨pre', h1, hJx3 pre' C' A A' row h2 hg hr⟩, std_grow (β := Unit) (show W.heap.size ≤ W3.heap.size by omega) () C' A A' row h3 hg hr⟩
    case assign2 =>
      intro l x W K hK
      gi_wp2
      exact hK
    case done2 =>
      intro C' W' h
      exact ⟨C', h.2, ⟨⟨names_end pre (ls p) ▸ h.1.1.1, h.1.1.2⟩, h.1.2⟩⟩
    case stop2 =>
      rintro c ys C' W' hys ⟨rfl, ⟨pre', h1, h2⟩, hg⟩
      gi_wp2
      exact ⟨C', hg, rfl, pre', h1, h2⟩
    case body2 =>
      intro l2 ys d C2 W4 hl2 hnl2 hrec2 hds hys hi2
      obtain ⟨⟨⟨hj4, bx4⟩, hn4⟩, hg4⟩ := hi2
      have cw := fun W => words_any d W hds
      have hlen := words_len (ls d)
      rw [ls_length] at hlen
      clear c1 c2 ry2 hny d1 d2 hr1 hr3 hj bx hb3 hp hj2 hC9 hC8 two bx3 hj3 hg3 hn
      gi_wp2_with fail
      refine ⟨trivial, rfl, ?_⟩
      refine (CallsIn.inRound l2 (callsIn_wide.2 (cw _))).mono ?_
      rintro e w5 ⟨v, n, rfl, hown, hb5⟩
      obtain ⟨A, k, rfl, hh, hnk⟩ := Has.of_own hown
      have hj5 := hJ'.below hj4 hb5
      have bx5 : Boxed w5 by_ 34 (.func (.yield l) #[] #[]) := (hb5.block _ bx4.lt).trans bx4
      have hg5 : Grow C2 C2 W4 w5 := ⟨hb5.size, fun k hk _ => hb5.block k hk, fun _ h => .inl h⟩
      have hnl : n = (wordsL (ls d)).length := by have := hh.1; rw [wv_length] at this; omega
      clear hown cw hj4 bx4 hb5
      cases hw : wordsL (ls d) with
      | nil =>
        have hnn := name_none hw
        rw [hw] at hnl
        simp at hnl
        subst hnl
        have HN := Lib.hid hnn
        clear hnn hw hh hlen
        gi_wp2
        refine ⟨C2, hg5, ⟨⟨by rw [List.filterMap_append]; simpa [HN.out] using hj5, bx5⟩, hn4⟩, hg4.trans hg5⟩
      | cons w0 r =>
        have hnn := name_some hw
        have hshort := word_short (l := ls d) (x := w0) (by rw [hw]; simp)
        rw [ls_length] at hshort
        rw [hw] at hnl hh hlen
        obtain ⟨b, off, rfl, hc⟩ := str_cell hh 0 (by rw [hnl]; simp)
        rw [List.getD_cons_zero, Nat.add_zero] at hc
        have hsz : (bs w0).size ≤ 1000000000 := by rw [bs_size]; omega
        simp only [List.length_cons] at hnl hlen
        generalize r.length = m at *
        subst hnl
        obtain ⟨X, hX⟩ : ∃ X, X = bs w0 := ⟨_, rfl⟩
        have hname : nameD (ls d) = some (ls (lowS X)) := by rw [hnn, hX, lowS, ls_bs, ls_bs]
        rw [← hX] at hc hsz
        have hpx : pre.flatMap namesP ++ ys.filterMap nameD ++ [ls (lowS X)] <+: namesV (ls s) := by
          have := names_pre hpre hys
          rw [List.filterMap_append] at this
          simpa [hname] using this
        have HN := Lib.hid hname
        have cl := fun W => lower_any X W hsz
        have hlsz : (lowS X).size ≤ 1000000000 := by rw [lowS_size]; exact hsz
        have HP := Lib.hid hpx
        clear hw hnn hX hname hpx hh hlen hshort
        generalize lowS X = Y at *
        have hj6 := hJ'.below hj5 (show Below w5.heap.size w5 w5.drew from (Below.refl w5.heap.size w5).drew)
        have kb5 := bx5.cell
        have hm : Try.prog.follows .mixedOrders = true := by kernel_rfl
        have hbl := bx5.lt
        gi_wp2
        gi_region_with_o (first
          | (refine ⟨trivial, rfl, ?_⟩; refine (CallsIn.inRound l2 (callsIn_wide.2 (cl _))).mono ?_; rintro e w6 ⟨rfl, hb6⟩; have bx6 : Boxed w6 by_ 34 (.func (.yield l) #[] #[]) := (hb6.block by_ hbl).trans bx5; have kb6 := bx6.cell; have hg6 : Grow C2 C2 w5 w6 := ⟨hb6.size, fun k hk _ => hb6.block k hk, fun _ h => .inl h⟩; have hj7 := hJ'.below hj6 hb6; obtain ⟨fn, tmps, assign, body, hyy, hR⟩ := hY _ Y C2 w6 hlsz HP.out hj7)
          | (refine ⟨rfl, ?_⟩; refine (round_in (round_wide hR)).mono ?_; rintro e w7 ⟨C7, hg7, hq0⟩; obtain ⟨q, rfl, hq⟩ := yield_bool hq0; have HQ := Lib.hid hq; clear hq hq0))
        all_goals
          have hgA := hg5.trans (hg6.trans hg7)
          have bx7 : Boxed w7 by_ 34 (.func (.yield l) #[] #[]) := grow_box hg7 bx6 hn4
          have hn7 := hg7.not bx6.lt hn4
          have hgB := hg4.trans hgA
          have hj8 := HQ.out
          have hfm : pre.flatMap namesP ++ (ys ++ [ls d]).filterMap nameD = pre.flatMap namesP ++ ys.filterMap nameD ++ [ls Y] := by
            rw [List.filterMap_append, List.append_assoc]
            simp [HN.out]
          have HJ := Lib.hid hj8
          have HFM := Lib.hid hfm
          clear hj8 HQ hR hyy hfm
          cases q with
          | true =>
            gi_wp2
            refine ⟨C7, hgA, ⟨⟨?_, bx7⟩, hn7⟩, hgB⟩
            have := HJ.out
            rw [HFM.out]
            simpa using this
          | false =>
            gi_wp2
            refine ⟨C7, hgA, rfl, ⟨_, HP.out, ?_⟩, hgB⟩
            have := HJ.out
            simpa using this

end Go.Proofs.Ytgilpheclmmolaa
