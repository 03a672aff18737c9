/-
  Header fields in memory: the cells of a field, its variable as one row, lists of fields.
-/
import Derived.Test.YtmfoegpdjajicaaRows
import Derived.Test.YtmfoegpdjajicaaTyB
import Derived.Test.YtmfoegpdjajicaaFldP
import Derived.Test.YtmfoegpdjajicaaArr
import Derived.Test.YtmfoegpdjajicaaApp
import Derived.Test.YtmfoegpdjajicaaYes
import Derived.Deep.MidRow
import Derived.Laws.ResultCell
import Derived.Laws.AppendOwn
namespace Go.Proofs.Ytmfoegpdjajicaa
open Go.RowKit

/-- The cells of a field. -/
def fc (n v : ByteArray) : Array Value := #[.string n, .string v]
theorem fc_one (n v : ByteArray) : (fc n v).all (·.oneCell') = true := by simp [fc, Value.oneCell']
def fz : Array Value := fc ⟨#[]⟩ ⟨#[]⟩
theorem zeroFd (w : World) : (zeroValue 44).run Try.prog w = .ok (.agg fz) w := (zero_of_info (P := Try.prog) (t := 44) (v := .agg fz) (n := 2) (by kernel_rfl)).1 w
theorem fdUnd : (Try.prog.underlying 44).map (fun d => match d with | .struct _ | .array _ _ => true | _ => false) = some true := by kernel_rfl
theorem fdRow : (Try.prog.underlying 44).map (·.isRow) = some true := by kernel_rfl
theorem fdSize : (Try.prog.info? 44).map (·.size) = some 2 := by kernel_rfl
theorem tyFds : Try.prog.underlying 25 = some (.slice 44) := by kernel_rfl
theorem infoFd : (Try.prog.info? 44).map (fun i => (i.zero, i.size, i.bytes)) = some (some (.agg fz), 2, 32) := by kernel_rfl
/-- A field's variable. -/
def RowFd (w : World) (b : Nat) (n v : ByteArray) : Prop := Row w b 44 #[.string n, .string v]
theorem RowFd.cells {w : World} {b : Nat} {n v : ByteArray} (hr : RowFd w b n v) : w.cell? ⟨b, 0, none⟩ = some (.string n) ∧ w.cell? ⟨b, 1, none⟩ = some (.string v) :=
  ⟨Row.cell hr (k := 0) (by simp), Row.cell hr (k := 1) (by simp)⟩
theorem load_fd {w : World} {b : Nat} {n v : ByteArray} (hr : RowFd w b n v) : (loadVar 44 ⟨b, 0, none⟩).run Try.prog w = .ok (.agg #[.string n, .string v]) w := by
  have hu := fdUnd
  obtain ⟨d, hd⟩ : ∃ d, Try.prog.underlying 44 = some d := by
    cases hx : Try.prog.underlying 44 with
    | none => rw [hx] at hu; cases hu
    | some d => exact ⟨d, rfl⟩
  rw [hd] at hu
  cases d <;> first
    | exact run_loadVar_row (P := Try.prog) w b _ _ _ (0, 0) _ hr hd rfl fdSize
    | cases hu
/-- A load of a field from the midst of a block. -/
theorem load_fdm {w : World} {b o : Nat} {n v : ByteArray} (h0 : w.cell? ⟨b, o, none⟩ = some (.string n)) (h1 : w.cell? ⟨b, o + 1, none⟩ = some (.string v)) :
    (loadVar 44 ⟨b, o, none⟩).run Try.prog w = .ok (.agg #[.string n, .string v]) w := by
  have hu := fdRow
  obtain ⟨d, hd⟩ : ∃ d, Try.prog.underlying 44 = some d := by
    cases hx : Try.prog.underlying 44 with
    | none => rw [hx] at hu; cases hu
    | some d => exact ⟨d, rfl⟩
  rw [hd] at hu
  have hr : w.rangeAt b o [.string n, .string v] := by
    intro j u hj
    match j, hj with
    | 0, hj => simp at hj; subst hj; exact h0
    | 1, hj => simp at hj; subst hj; exact h1
    | j + 2, hj => simp at hj
  exact run_loadVar_mid (P := Try.prog) w b o 44 [.string n, .string v] d hr hd (by simpa using hu) fdSize
section
variable {ops : Array Oper} {rest : List Oper} {o : Oper} {a : Act} {w : World} {Q : Exit → Act → World → Prop}
/-- A load of a field's variable, guarded or not; of one in the midst of a block; a store. -/
theorem wpList_load_fd (hw : Region.wanted o (yielded ops a.tmps) = true) (x : Operand) (ho : o.op = .load 44 x)
    (g : Nat) (hx : a.eval x = .pointer (some ⟨g, 0, none⟩)) (n v : ByteArray) (h0 : RowFd w g n v)
    (h : wpList Try.prog ops Q rest (a.put o.dst (.agg #[.string n, .string v])) w) : wpList Try.prog ops Q (o :: rest) a w := by
  have hl := load_fd h0
  unfold wpList
  rw [if_pos hw]
  left
  unfold Oper.wp
  simp only [execOp, ho, hx, Instr.loadAt, Instr.sureAddr, Sem.run_bind, Sem.run_pure, Result.andThen, hl]
  exact h
theorem wpList_load_fdm (hw : Region.wanted o (yielded ops a.tmps) = true) (x : Operand) (ho : o.op = .load 44 x)
    (b f : Nat) (hx : a.eval x = .pointer (some ⟨b, f, none⟩)) (n v : ByteArray) (h0 : w.cell? ⟨b, f, none⟩ = some (.string n)) (h1 : w.cell? ⟨b, f + 1, none⟩ = some (.string v))
    (h : wpList Try.prog ops Q rest (a.put o.dst (.agg #[.string n, .string v])) w) : wpList Try.prog ops Q (o :: rest) a w := by
  have hl := load_fdm h0 h1
  unfold wpList
  rw [if_pos hw]
  left
  unfold Oper.wp
  simp only [execOp, ho, hx, Instr.loadAt, Instr.sureAddr, Sem.run_bind, Sem.run_pure, Result.andThen, hl]
  exact h
theorem wpList_store_fd (hgd : o.guard = none) (hd : o.dst = none) (p x : Operand) (ho : o.op = .store 44 p x)
    (g : Nat) (hp : a.eval p = .pointer (some ⟨g, 0, none⟩)) (n' v' : ByteArray) (hx : a.eval x = .agg #[.string n', .string v']) (n v : ByteArray) (hrow : RowFd w g n v)
    (h : ∀ w', RowFd w' g n' v' → w.grownBy w' (some g) → wpList Try.prog ops Q rest a w') : wpList Try.prog ops Q (o :: rest) a w :=
  wpList_store_arr w hgd hd _ p x ho g hp #[.string n', .string v'] hx _ _ hrow fdSize rfl (fc_one _ _) h
end

/-! ### lists of fields -/
def fvv (l : List Fv) : List Value := l.flatMap fun d => [.string (bs d.name), .string (bs d.value)]
theorem fvv_snoc (l : List Fv) (d : Fv) : fvv l ++ [.string (bs d.name), .string (bs d.value)] = fvv (l ++ [d]) := by simp [fvv]
theorem fvv_length : ∀ l : List Fv, (fvv l).length = l.length * 2
  | [] => rfl
  | d :: l => by
    have := fvv_length l
    simp only [fvv, List.flatMap_cons, List.length_append, List.length_cons, List.length_nil] at this ⊢
    omega
theorem fvv_get : ∀ (l : List Fv) (k : Nat) (h : k < l.length), (fvv l)[k * 2]? = some (.string (bs l[k].name)) ∧ (fvv l)[k * 2 + 1]? = some (.string (bs l[k].value))
  | [], k, h => absurd h (by simp)
  | d :: l, 0, h => ⟨rfl, rfl⟩
  | d :: l, k + 1, h => by
    have ih := fvv_get l k (by simpa using h)
    have e : fvv (d :: l) = Value.string (bs d.name) :: .string (bs d.value) :: fvv l := rfl
    rw [e, show (k + 1) * 2 = k * 2 + 1 + 1 by omega]
    simp only [List.getElem?_cons_succ, List.getElem_cons_succ]
    exact ih
/-- A slice of fields; below block B. -/
def HasFd (w : World) (B : Nat) (A : Option Addr) (n : Nat) (l : List Fv) : Prop :=
  l.length = n ∧ (0 < n → ∃ b off, A = some ⟨b, off, none⟩ ∧ b < B ∧ ∀ k (h : k < l.length), w.cell? ⟨b, off + k * 2, none⟩ = some (.string (bs l[k].name)) ∧ w.cell? ⟨b, off + k * 2 + 1, none⟩ = some (.string (bs l[k].value)))
section
variable {w w' : World} {B B' n : Nat} {A : Option Addr} {l : List Fv}
theorem HasFd.nil (w : World) (B : Nat) (A : Option Addr) : HasFd w B A 0 [] := ⟨rfl, fun h => absurd h (by omega)⟩
theorem HasFd.keep (h : HasFd w B A n l) (hk : ∀ p : Addr, p.block < B → w'.cell? p = w.cell? p) : HasFd w' B A n l :=
  ⟨h.1, fun hn => by
    obtain ⟨b, off, e, hb, hc⟩ := h.2 hn
    exact ⟨b, off, e, hb, fun j hj => ⟨(hk _ hb).trans (hc j hj).1, (hk _ hb).trans (hc j hj).2⟩⟩⟩
theorem HasFd.more (h : HasFd w B A n l) (hB : B ≤ B') : HasFd w B' A n l :=
  ⟨h.1, fun hn => by
    obtain ⟨b, off, e, hb, hc⟩ := h.2 hn
    exact ⟨b, off, e, by omega, hc⟩⟩
theorem HasFd.below (h : HasFd w B A n l) (hb : Below B w w') : HasFd w' B A n l := h.keep fun _ hp => hb.cell hp
theorem HasFd.below' (h : HasFd w B A n l) (hb : Below B' w w') (hB : B ≤ B') : HasFd w' B A n l := h.keep fun _ hp => hb.cell (by omega)
theorem HasFd.drewN (h : HasFd w B A n l) (k : Nat) : HasFd (w.drewN k) B A n l := h
theorem HasFd.at_ (h : HasFd w B A n l) {k : Nat} (hk : k < n) : ∃ b off, A = some ⟨b, off, none⟩ ∧ b < B ∧ w.cell? ⟨b, off + k * 2, none⟩ = some (.string (bs (l[k]'(by rw [h.1]; exact hk)).name)) ∧ w.cell? ⟨b, off + k * 2 + 1, none⟩ = some (.string (bs (l[k]'(by rw [h.1]; exact hk)).value)) := by
  obtain ⟨b, off, e, hb, hc⟩ := h.2 (by omega)
  exact ⟨b, off, e, hb, hc k _⟩
theorem HasFd.of_own {base : Nat} {v : Value} (h : w.ownsRow base 44 2 v n (fvv l)) : ∃ A c, v = .slice A n c ∧ HasFd w w.heap.size A n l ∧ n ≤ c ∧ (A = none → c = 0) := by
  have hl : l.length = n := by have := h.1; rw [fvv_length] at this; omega
  rcases h.2 with ⟨rfl, rfl⟩ | ⟨g, cap, cur, rfl, hb, hg, hnc, _⟩
  · exact ⟨none, 0, rfl, ⟨hl, fun h => absurd h (by omega)⟩, Nat.le_refl _, fun _ => rfl⟩
  · refine ⟨_, cap, rfl, ⟨hl, fun hn => ?_⟩, hnc, fun e => by cases e⟩
    refine ⟨g, 0, rfl, (Array.getElem?_eq_some_iff.1 hg).1, fun k hk => ?_⟩
    obtain ⟨g0, g1⟩ := fvv_get l k hk
    have key : ∀ j u, (fvv l)[j]? = some u → w.cell? ⟨g, j, none⟩ = some u := by
      intro j u hu
      have := h.cells (g := g) rfl j u hu
      have hadd : (⟨g, 0, none⟩ : Addr).add j = ⟨g, j, none⟩ := by unfold Addr.add; split <;> simp_all
      rwa [hadd] at this
    rw [Nat.zero_add]
    exact ⟨key _ _ g0, key _ _ g1⟩
end

/-- append(out, d): behind 'buildSlice'. -/
theorem wpList_app_fd {w0 : World} (wr : World) {ops : Array Oper} {rest : List Oper} {o : Oper} {a : Act} {Q : Exit → Act → World → Prop} (hgd : o.guard = none) (s x : Operand)
    (ho : o.op = .call { callee := .builtin .append, args := #[s, x], argTypes := #[25, 25] })
    (base : Nat) (d : Fv) (v : Value) (n : Nat) (l : List Fv) (hs : a.eval s = v) (hown : wr.ownsRow base 44 2 v n (fvv l)) (hx : a.eval x = .slice (some ⟨wr.heap.size, 0, none⟩) 1 1)
    (h63 : n ≤ 1000000) (hb : Below base w0 wr) (hbase : base ≤ w0.heap.size)
    (h : ∀ v' w', w'.ownsRow base 44 2 v' (n + 1) (fvv (l ++ [d])) → Below base w0 w' → wr.grownBy w' v.ownBlock → wpList Try.prog ops Q rest (a.put o.dst v') w') :
    wpList Try.prog ops Q (o :: rest) a (wr.alloc (.cells #[.string (bs d.name), .string (bs d.value)] 44)) := by
  obtain ⟨i, hi, hz0, hz1, hz2⟩ := info_parts infoFd
  have hsz := hb.size
  have hbw : base ≤ wr.heap.size := by omega
  refine wpList_append_own (P := Try.prog) _ hgd s x 25 ho base 44 i (.agg fz) 2 32 tyFds hi hz0 hz1 hz2 rfl (by decide) v n (fvv l) hs (hown.alloc _) ⟨wr.heap.size, 0, none⟩ 1 1 [.string (bs d.name), .string (bs d.value)] hx rfl ?_ ?_ (by unfold maxLen; omega) (by omega) (by simp; omega) ?_
  · intro j q hj
    match j, hj with
    | 0, hj => simp at hj; subst hj; simp [Addr.add, World.cell?_alloc_at _ _ _ _ rfl]
    | 1, hj => simp at hj; subst hj; simp [Addr.add, World.cell?_alloc_at _ _ _ _ rfl]
    | j + 2, hj => simp at hj
  · intro q hq
    simp at hq
    rcases hq with rfl | rfl <;> rfl
  · intro v' w' hown' hgrow _
    rw [fvv_snoc] at hown'
    exact h v' w' hown' (owns_below (hown.alloc _) (hb.alloc hbw _) (by simp; omega) hgrow) (grownBy_trans (World.grownBy_alloc wr _ _) hgrow)

/-- A list of fields and a number, as a function returns them. -/
def FdsPost (p : List Fv × Int) (w : World) (e : Ending) (w' : World) : Prop :=
  ∃ A c, e = .returned (.tuple #[.slice A p.1.length c, .int .i64 p.2]) ∧ p.1.length ≤ c ∧ (A = none → c = 0) ∧ HasFd w' w'.heap.size A p.1.length p.1 ∧ Below w.heap.size w w'
theorem fds_nil {w w' : World} {p : List Fv × Int} {r : Int} (h : p = ([], r)) (hb : Below w.heap.size w w') : FdsPost p w (.returned (.tuple #[.slice none 0 0, .int .i64 r])) w' := by
  rw [h]
  exact ⟨none, 0, rfl, Nat.le_refl _, fun _ => rfl, HasFd.nil _ _ _, hb⟩
theorem fds_own {w w' : World} {p : List Fv × Int} {l : List Fv} {base n : Nat} {v : Value} (h : p = (l, 0)) (hown : w'.ownsRow base 44 2 v n (fvv l)) (hb : Below w.heap.size w w') : FdsPost p w (.returned (.tuple #[v, .int .i64 0])) w' := by
  rw [h]
  obtain ⟨A, c, rfl, h1, h2, h3⟩ := HasFd.of_own hown
  obtain rfl := h1.1
  exact ⟨A, c, rfl, h2, h3, h1, hb⟩
/-- A slice of fields that came in. -/
def InFd (w : World) (A : Option Addr) (n c : Nat) (l : List Fv) : Prop := HasFd w w.heap.size A n l ∧ n ≤ c ∧ c ≤ maxLen

end Go.Proofs.Ytmfoegpdjajicaa
