/- Texts of this seat, one behind the other: DaH. -/
import Derived.Test.YtncifeeinogcnaaDoorKn15
import Derived.Test.YtncifeeinogcnaaDoorKn16
import Derived.RegionTactic
/- Sets of texts; Family; two names alike. -/
set_option maxRecDepth 100000
namespace Go.Proofs.YtncifeeinogcnaaDoor
open Go.Shelf Go.RowKit Go.Lib Go.Sort Go.Maps Go.WideShapes Go.Proofs.TreeMath Go.Proofs.LexMath

/-- A text as a key. -/
def litS (s : ByteArray) : Lit := .string s.data.toList
theorem litS_inj {a b : ByteArray} (h : litS a = litS b) : a = b := by
  unfold litS at h
  injection h with h
  obtain ⟨⟨a⟩⟩ := a
  obtain ⟨⟨b⟩⟩ := b
  simpa using h
theorem litS_key (s : ByteArray) : WideAt.IsKeyLit (litS s) := trivial
theorem litS_same (a b : ByteArray) : (litS a).sameKey (litS b) = decide (a = b) := by
  rw [Bool.eq_iff_iff, WideAt.sameKey_iff (litS_key b), decide_eq_true_iff]
  exact ⟨litS_inj, fun h => by rw [h]⟩
theorem law9s : Keyed Tryd.prog 9 := string_keyed Tryd.underlying9
theorem keyS (s : ByteArray) (h : s.size ≤ 1000000) : keyOf Tryd.prog 9 (.string s) = some (litS s) := WideMaps.keyOf_string_mk Tryd.underlying9 (by unfold maxLen; omega)
/-- The texts of a list, each once, behind those that are there. -/
def addB (acc : List ByteArray) (s : ByteArray) : List ByteArray := if acc.any (fun y => decide (y = s)) then acc else acc ++ [s]
def onceB (l : List ByteArray) : List ByteArray := l.foldl addB []
theorem any_lit (L : List ByteArray) (s : ByteArray) : (L.map litS).any (fun y => y.sameKey (litS s)) = L.any fun y => decide (y = s) := by
  rw [List.any_map]
  congr 1
  funext y
  exact litS_same y s
theorem addKey_lit (L : List ByteArray) (s : ByteArray) : addKey (L.map litS) (litS s) = (addB L s).map litS := by
  unfold addKey addB
  rw [any_lit]
  split <;> simp
theorem fold_lit (xs : List ByteArray) : ∀ acc, (xs.map litS).foldl addKey (acc.map litS) = (xs.foldl addB acc).map litS := by
  induction xs with
  | nil => intro acc; rfl
  | cons x xs ih =>
    intro acc
    rw [List.map_cons, List.foldl_cons, addKey_lit, ih]
    rfl
def setS (l : List ByteArray) : DM := setOf (.agg []) (l.map litS)
theorem setS_size (l : List ByteArray) : Maps.size (setS l) = (onceB l).length := by
  unfold setS onceB
  rw [size_setOf _ _ (by intro x hx; obtain ⟨s, _, rfl⟩ := List.mem_map.1 hx; exact litS_key s)]
  have := fold_lit l []
  rw [List.map_nil] at this
  rw [this, List.length_map]
theorem setS_snoc (l : List ByteArray) (s : ByteArray) : setS (l ++ [s]) = (setS l).put (litS s) (.agg []) := by
  unfold setS
  rw [List.map_append]
  exact setOf_snoc _ _ _
/-! ### Family -/
theorem findD_lt (p : Dt → Ct → Bool) (ds : List Dt) : ∀ k i j, findD p ds k = some (i, j) → k ≤ i ∧ i - k < ds.length ∧ j < (ds.getD (i - k) default).cons.length := by
  induction ds with
  | nil => intro k i j h; simp [findD] at h
  | cons d ds ih =>
    intro k i j h
    unfold findD at h
    cases hf : d.cons.findIdx? (p d) with
    | some j0 =>
      rw [hf] at h
      simp only [Option.some.injEq, Prod.mk.injEq] at h
      obtain ⟨rfl, rfl⟩ := h
      obtain ⟨hlt, _⟩ := List.findIdx?_eq_some_iff_getElem.1 hf
      refine ⟨Nat.le_refl _, by simp, ?_⟩
      rw [Nat.sub_self]
      exact hlt
    | none =>
      rw [hf] at h
      simp only at h
      obtain ⟨h1, h2, h3⟩ := ih (k + 1) i j h
      have e : i - k = (i - (k + 1)) + 1 := by omega
      refine ⟨by omega, by simp only [List.length_cons]; omega, ?_⟩
      rw [e, List.getD_cons_succ]
      exact h3
/-- The constructors of a constructor's type. -/
def famC (ds : List Dt) (con : ByteArray) : List Ct := match findC ds con with
  | some (i, _) => (ds.getD i default).cons
  | none => []
theorem fam_any (lv : Value) (ds : List Dt) (con : ByteArray) (w : World) (h : DtsAt w lv ds) (hn : ds.length ≤ 1000000) (hc6 : ∀ d ∈ ds, d.cons.length ≤ 1000000) : Calls Tryd.prog 11 #[lv, .string con] w (CcP w (famC ds con)) := by
  have C := Lib.hid (find_any lv ds con w h hn hc6)
  have H := Lib.hid h
  unfold FdP at C
  obtain ⟨lq, lc, rfl⟩ := h.form
  cases hf : findC ds con with
  | none =>
    have E : Hid (∀ w', Below w.heap.size w w' → CcP w (famC ds con) (.returned (.slice none 0 0)) w') := Lib.hid fun w' h => ⟨_, rfl, by rw [show famC ds con = [] by unfold famC; rw [hf]]; exact ⟨⟨rfl, _, _, rfl, Nat.le_refl _, by unfold maxLen; omega, fun h => absurd rfl h⟩, fun _ h => by simp at h⟩, h⟩
    generalize CcP w (famC ds con) = Z at E ⊢
    rw [hf] at C
    unfold fndE at C
    clear hf h
    go_enter Tryd.func11, Tryd.ntmps11
    go_wp2_with fail
    refine C.out.mono ?_
    rintro e w3 ⟨rfl, b3⟩
    have F := Lib.hid (E.out w3 b3)
    clear b3 C
    go_wp2
    first | go_ret | skip
    exact F.out
  | some ij =>
    obtain ⟨i, j⟩ := ij
    obtain ⟨_, h2, _⟩ := findD_lt _ _ _ _ _ hf
    rw [Nat.sub_zero] at h2
    have HC6 := Lib.hid (hc6 _ (getD_mem ds i h2))
    have HD := Lib.hid (h.2 _ (getD_mem ds i h2))
    have E : Hid (∀ e w' W, Below w.heap.size w W → CcP W (ds.getD i default).cons e w' → CcP w (famC ds con) e w') := Lib.hid fun e w' W b ⟨v, e1, h1, b1⟩ => ⟨v, e1, by rw [show famC ds con = (ds.getD i default).cons by unfold famC; rw [hf]]; exact h1, b.trans (b1.mono b.size)⟩
    generalize CcP w (famC ds con) = Z at E ⊢
    rw [hf] at C
    unfold fndE at C
    obtain ⟨b, o, c, e, hb, c0, c1, c2⟩ := h.cell i h2
    simp only [Value.slice.injEq] at e
    obtain ⟨rfl, -, -⟩ := e
    have C2 := Lib.hid c2
    obtain ⟨n, hnn⟩ : ∃ n, n = ds.length := ⟨_, rfl⟩
    rw [← hnn] at h2 C ⊢
    have k2 : ((i : Int) < (n : Int)) := by omega
    clear hf h c0 c1 c2 hnn
    go_enter Tryd.func11, Tryd.ntmps11
    go_wp2_with fail
    refine C.out.mono ?_
    rintro e w3 ⟨rfl, b3⟩
    have c3 := (b3.cell (p := ⟨b, o + i * 3 + 2, none⟩) hb).trans C2.out
    have CC := Lib.hid (clc_any _ _ w3 (HD.out.below b3) HC6.out)
    have B3 := Lib.hid b3
    clear b3 C
    obtain ⟨cv, hcv⟩ : ∃ cv, cv = (ds.getD i default).cv := ⟨_, rfl⟩
    rw [← hcv] at c3 CC
    clear hcv
    go_wp2_with fail
    refine CC.out.mono ?_
    intro e w4 h4
    have F := Lib.hid (E.out e w4 w3 B3.out h4)
    obtain ⟨v4, rfl, _, _⟩ := h4
    go_wp2
    first | go_ret | skip
    exact F.out
end Go.Proofs.YtncifeeinogcnaaDoor
