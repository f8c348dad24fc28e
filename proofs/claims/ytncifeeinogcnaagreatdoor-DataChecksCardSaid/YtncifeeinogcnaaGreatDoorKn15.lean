/- Texts of this seat, one behind the other: TyD, TyE, TyRow. -/
import Derived.Test.YtncifeeinogcnaaGreatDoorKn14
import Derived.Lib.Hide
import Derived.Outline
import Derived.LoopTactic
import Derived.Deep.QuietTactic
import Derived.BigQuiet
import Derived.Deep.LoopGhost
import Derived.WalkKit
import Derived.ProofKit
import Derived.Below
import Derived.Deep.OwnRows
import Derived.Maps.AppendAt
import Derived.Deep.AppendSrc
import Derived.Deep.RegionLaw
/- Terms in a world; the contract of root. -/
set_option maxRecDepth 100000
namespace Go.Proofs.YtncifeeinogcnaaGreatDoor
open Go.RowKit Go.Lib Go.Proofs.TreeMath

theorem cell_of_heap {w : World} {b : Nat} {cells : Array Value} {t : TypeId} {fz : Nat × Nat} (h : w.heap[b]? = some (.cells cells t fz)) (k : Nat) : w.cell? ⟨b, k, none⟩ = cells[k]? := by simp [World.cell?, h]
theorem frozen_of_heap {w : World} {b : Nat} {cells : Array Value} {t : TypeId} (h : w.heap[b]? = some (.cells cells t (0, 0))) (k : Nat) : w.frozen? ⟨b, k, none⟩ = false := by simp [World.frozen?, h]
theorem set_blk {w : World} {p : Nat} {cs : Array Value} {T : TypeId} {fz : Nat × Nat} (h : w.heap[p]? = some (.cells cs T fz)) (i : Nat) (v : Value) : (w.setCell ⟨p, i, none⟩ v).heap[p]? = some (.cells (cs.setIfInBounds i v) T fz) := by
  simp [World.setCell, Array.getElem?_modify, h]
/-- Below B all blocks but these are as they were. -/
structure Frm (D : Nat → Prop) (B : Nat) (w w' : World) : Prop where
  os : w'.os = w.os
  tape : w'.tape = w.tape
  output : w'.output = w.output
  size : w.heap.size ≤ w'.heap.size
  block : ∀ k, k < B → ¬ D k → w'.heap[k]? = w.heap[k]?
theorem Frm.refl (D : Nat → Prop) (B : Nat) (w : World) : Frm D B w w := ⟨rfl, rfl, rfl, Nat.le_refl _, fun _ _ _ => rfl⟩
theorem Frm.trans {D : Nat → Prop} {B : Nat} {a b c : World} (h : Frm D B a b) (k : Frm D B b c) : Frm D B a c :=
  ⟨k.os.trans h.os, k.tape.trans h.tape, k.output.trans h.output, Nat.le_trans h.size k.size, fun j hj hp => (k.block j hj hp).trans (h.block j hj hp)⟩
theorem Frm.mono {D E : Nat → Prop} {B C : Nat} {w w' : World} (h : Frm D B w w') (hC : C ≤ B) (hD : ∀ k, k < C → D k → E k) : Frm E C w w' :=
  ⟨h.os, h.tape, h.output, h.size, fun k hk hn => h.block k (by omega) (fun hd => hn (hD k hk hd))⟩
theorem Frm.of_below {D : Nat → Prop} {B : Nat} {w w' : World} (h : Below B w w') : Frm D B w w' := ⟨h.os, h.tape, h.output, h.size, fun k hk _ => h.block k hk⟩
theorem Frm.below {D : Nat → Prop} {B C : Nat} {w w' : World} (h : Frm D B w w') (hC : C ≤ B) (hD : ∀ k, k < C → ¬ D k) : Below C w w' := ⟨h.os, h.tape, h.output, h.size, fun k hk => h.block k (by omega) (hD k hk)⟩
theorem Frm.drew {D : Nat → Prop} {B : Nat} {a w : World} (h : Frm D B a w) : Frm D B a w.drew := ⟨h.os, h.tape, h.output, h.size, h.block⟩
theorem Frm.setCell {D : Nat → Prop} {B : Nat} {a w : World} (h : Frm D B a w) {x i : Nat} (hx : D x) (u : Value) : Frm D B a (w.setCell ⟨x, i, none⟩ u) :=
  h.trans ⟨rfl, rfl, rfl, by simp [World.setCell], fun k _ hn => Below.heap_setCell _ _ _ _ (by rintro rfl; exact hn hx)⟩
def pv (b : Nat) : Value := .pointer (some ⟨b, 0, none⟩)
def pvo : Option Nat → Value | none => .pointer none | some b => pv b
def tmCells (n : Nd) (kv : Value) (by_ : Option Nat) (wi : Bool) (mk : Int) : Array Value := #[.int .i64 n.kind, .string n.text, .int .i64 n.num, .int .i64 n.kids, kv, pvo by_, .bool wi, .int .i64 mk]
/-- A row of terms, below B. -/
def KidsAt (B : Nat) (w : World) (v : Value) (ks : List Nat) : Prop := w.ownsRow 0 93 1 v ks.length (ks.map pv) ∧ ∀ g, v.ownBlock = some g → g < B
theorem KidsAt.of_block {B : Nat} {w w' : World} {v : Value} {ks : List Nat} (h : KidsAt B w v ks) (e : ∀ g, v.ownBlock = some g → w'.heap[g]? = w.heap[g]?) : KidsAt B w' v ks := by
  obtain ⟨⟨h1, h2⟩, h3⟩ := h
  refine ⟨⟨h1, ?_⟩, h3⟩
  rcases h2 with h2 | ⟨g, cap, cur, rfl, hb, hg, h4⟩
  · exact .inl h2
  · exact .inr ⟨g, cap, cur, rfl, hb, by rw [e g rfl]; exact hg, h4⟩
theorem KidsAt.ty {B : Nat} {w : World} {v : Value} {ks : List Nat} (h : KidsAt B w v ks) {g : Nat} (e : v.ownBlock = some g) : ∃ cur, w.heap[g]? = some (.cells cur 93 (0, 0)) := by
  obtain ⟨⟨_, h2⟩, _⟩ := h
  rcases h2 with ⟨rfl, _⟩ | ⟨g', cap, cur, rfl, hb, hg, _⟩
  · simp [Value.ownBlock] at e
  · simp only [Value.ownBlock, Option.some.injEq] at e
    subst e
    exact ⟨cur, hg⟩
/-- .. in a block that is told. -/
structure KA (B : Nat) (w : World) (v : Value) (ks : List Nat) (row : Option Nat) : Prop where
  k : KidsAt B w v ks
  r : v.ownBlock = row
theorem KA.of_block {B : Nat} {w w' : World} {v : Value} {ks : List Nat} {row : Option Nat} (h : KA B w v ks row) (e : ∀ g, v.ownBlock = some g → w'.heap[g]? = w.heap[g]?) : KA B w' v ks row := ⟨h.k.of_block e, h.r⟩
theorem KA.ty {B : Nat} {w : World} {v : Value} {ks : List Nat} {row : Option Nat} (h : KA B w v ks row) {g : Nat} (e : v.ownBlock = some g) : ∃ cur, w.heap[g]? = some (.cells cur 93 (0, 0)) := h.k.ty e
inductive Leads (by_ : Nat → Option Nat) : Nat → Nat → Prop
  | stop {x : Nat} (h : by_ x = none) : Leads by_ x x
  | step {x y r : Nat} (h : by_ x = some y) (k : Leads by_ y r) : Leads by_ x r
/-- What a store's terms are. -/
structure SS where
  dom : List Nat
  node : Nat → Nd
  kids : Nat → List Nat
  rep : Nat → Nat
  wi : Nat → Bool
  mr : Nat → Int
  row : Nat → Option Nat
structure TB (B : Nat) (w : World) (S : SS) (by_ : Nat → Option Nat) : Prop where
  lead : ∀ x, Leads by_ x (S.rep x)
  bin : ∀ x y, by_ x = some y → y ∈ S.dom
  blk : ∀ x ∈ S.dom, x < B ∧ ∃ kv, w.heap[x]? = some (.cells (tmCells (S.node x) kv (by_ x) (S.wi x) (S.mr x)) 136 (0, 0)) ∧ (by_ x = none → KA B w kv (S.kids x) (S.row x))
  kin : ∀ x ∈ S.dom, ∀ k ∈ S.kids x, k ∈ S.dom
  fit : B ≤ w.heap.size
def TW (B : Nat) (w : World) (S : SS) : Prop := ∃ by_, TB B w S by_
def SS.D (S : SS) (k : Nat) : Prop := k ∈ S.dom
theorem TB.ne_row {B : Nat} {w : World} {S : SS} {by_ : Nat → Option Nat} (h : TB B w S by_) {x : Nat} (hx : x ∈ S.dom) {v : Value} {ks : List Nat} (hk : KidsAt B w v ks) {g : Nat} (e : v.ownBlock = some g) : g ≠ x := by
  rintro rfl
  obtain ⟨cur, h1⟩ := hk.ty e
  obtain ⟨_, kv, h2, _⟩ := h.blk g hx
  rw [h1] at h2
  simp at h2
/-- A term is written anew. -/
theorem TB.put {B : Nat} {w : World} {S : SS} {by_ by2 : Nat → Option Nat} (h : TB B w S by_) {x i : Nat} (hx : x ∈ S.dom) (v : Value) (S2 : SS) (hd : S2.dom = S.dom) (hn : S2.node = S.node) (hk : S2.kids = S.kids) (hro : S2.row = S.row)
    (hl : ∀ x, Leads by2 x (S2.rep x)) (hb : ∀ x y, by2 x = some y → y ∈ S.dom) (ho : ∀ y, y ≠ x → by2 y = by_ y ∧ S2.wi y = S.wi y ∧ S2.mr y = S.mr y)
    (hs : ∀ kv, w.heap[x]? = some (.cells (tmCells (S.node x) kv (by_ x) (S.wi x) (S.mr x)) 136 (0, 0)) → (by_ x = none → KA B w kv (S.kids x) (S.row x)) →
      ∃ kv2, (tmCells (S.node x) kv (by_ x) (S.wi x) (S.mr x)).setIfInBounds i v = tmCells (S.node x) kv2 (by2 x) (S2.wi x) (S2.mr x) ∧ (by2 x = none → KA B w kv2 (S.kids x) (S.row x))) :
    TB B (w.setCell ⟨x, i, none⟩ v) S2 by2 := by
  have keep : ∀ kv ks ro, KA B w kv ks ro → KA B (w.setCell ⟨x, i, none⟩ v) kv ks ro := fun kv ks ro k => k.of_block fun g e => Below.heap_setCell _ _ _ _ (h.ne_row hx k.k e)
  refine ⟨hl, fun y z e => by rw [hd]; exact hb y z e, fun y hy => ?_, fun y hy k hk' => ?_, by have := h.fit; simpa [World.setCell] using this⟩
  · rw [hd] at hy
    obtain ⟨h1, kv, h2, h3⟩ := h.blk y hy
    refine ⟨h1, ?_⟩
    by_cases e : y = x
    · subst e
      obtain ⟨kv2, h4, h5⟩ := hs kv h2 h3
      refine ⟨kv2, ?_, fun e => by rw [hk, hro]; exact keep _ _ _ (h5 e)⟩
      rw [set_blk h2, h4, hn]
    · obtain ⟨a, b, c⟩ := ho y e
      refine ⟨kv, ?_, fun e2 => by rw [hk, hro]; exact keep _ _ _ (h3 (by rw [← a]; exact e2))⟩
      rw [Below.heap_setCell _ _ _ _ e, h2, hn, a, b, c]
  · rw [hk] at hk'
    rw [hd] at hy ⊢
    exact h.kin y hy k hk'
theorem TB.below {B : Nat} {w w' : World} {S : SS} {by_ : Nat → Option Nat} (h : TB B w S by_) (b : Below B w w') : TB B w' S by_ :=
  ⟨h.lead, h.bin, fun x hx => by
    obtain ⟨h1, kv, h2, h3⟩ := h.blk x hx
    exact ⟨h1, kv, by rw [b.block x h1]; exact h2, fun e => (h3 e).of_block fun g hg => b.block g ((h3 e).k.2 g hg)⟩, h.kin, Nat.le_trans h.fit b.size⟩
theorem TW.below {B : Nat} {w w' : World} {S : SS} (h : TW B w S) (b : Below B w w') : TW B w' S := let ⟨y, k⟩ := h; ⟨y, k.below b⟩
theorem TB.cells {B : Nat} {w : World} {S : SS} {by_ : Nat → Option Nat} (h : TB B w S by_) {x : Nat} (hx : x ∈ S.dom) : ∃ kv, w.cell? ⟨x, 0, none⟩ = some (.int .i64 (S.node x).kind) ∧ w.cell? ⟨x, 1, none⟩ = some (.string (S.node x).text) ∧
    w.cell? ⟨x, 2, none⟩ = some (.int .i64 (S.node x).num) ∧ w.cell? ⟨x, 3, none⟩ = some (.int .i64 (S.node x).kids) ∧ w.cell? ⟨x, 4, none⟩ = some kv ∧ w.cell? ⟨x, 5, none⟩ = some (pvo (by_ x)) ∧ w.cell? ⟨x, 6, none⟩ = some (.bool (S.wi x)) ∧
    w.cell? ⟨x, 7, none⟩ = some (.int .i64 (S.mr x)) ∧ (∀ i, w.frozen? ⟨x, i, none⟩ = false) ∧ (by_ x = none → KA B w kv (S.kids x) (S.row x)) := by
  obtain ⟨_, kv, h2, h3⟩ := h.blk x hx
  exact ⟨kv, cell_of_heap h2 0, cell_of_heap h2 1, cell_of_heap h2 2, cell_of_heap h2 3, cell_of_heap h2 4, cell_of_heap h2 5, cell_of_heap h2 6, cell_of_heap h2 7, fun i => frozen_of_heap h2 i, h3⟩
/-- A shorter way to what stands for a term. -/
theorem Leads.short {by_ : Nat → Option Nat} {x y z : Nat} (h1 : by_ x = some y) (h2 : by_ y = some z) {a r : Nat} (h : Leads by_ a r) : Leads (fun u => if u = x then some z else by_ u) a r := by
  have ends : ∀ {a r}, Leads by_ a r → by_ r = none := by
    intro a r h
    induction h with
    | stop h => exact h
    | step _ _ ih => exact ih
  have skip : ∀ a r, Leads by_ a r → Leads (fun u => if u = x then some z else by_ u) a r ∧ (∀ c, by_ a = some c → Leads (fun u => if u = x then some z else by_ u) c r) := by
    intro a r h
    induction h with
    | @stop a h =>
      have hne : a ≠ x := by rintro rfl; rw [h] at h1; simp at h1
      exact ⟨.stop (by simp [hne, h]), fun c hc => by rw [h] at hc; simp at hc⟩
    | @step a c r h k ih =>
      refine ⟨?_, fun c' hc => ?_⟩
      · by_cases e : a = x
        · subst e
          rw [h1] at h
          simp only [Option.some.injEq] at h
          subst h
          exact .step (by simp) (ih.2 z h2)
        · exact .step (by simp [e, h]) ih.1
      · rw [h] at hc
        simp only [Option.some.injEq] at hc
        subst hc
        exact ih.1
  exact (skip a r h).1
theorem Leads.one {by_ : Nat → Option Nat} {a r s : Nat} (h : Leads by_ a r) (k : Leads by_ a s) : r = s := by
  induction h with
  | stop h =>
    cases k with
    | stop _ => rfl
    | step h' _ => rw [h] at h'; simp at h'
  | step h _ ih =>
    cases k with
    | stop h' => rw [h] at h'; simp at h'
    | step h' k' => rw [h] at h'; simp only [Option.some.injEq] at h'; subst h'; exact ih k'
theorem TB.none_iff {B : Nat} {w : World} {S : SS} {by_ : Nat → Option Nat} (h : TB B w S by_) (x : Nat) : by_ x = none ↔ S.rep x = x := by
  constructor
  · intro e
    exact ((Leads.stop e).one (h.lead x)).symm
  · intro e
    have h1 := h.lead x
    rw [e] at h1
    cases hb : by_ x with
    | none => rfl
    | some y =>
      exfalso
      have ends : ∀ {a r}, Leads by_ a r → by_ r = none := by
        intro a r h
        induction h with
        | stop h => exact h
        | step _ _ ih => exact ih
      rw [ends h1] at hb
      simp at hb
inductive LeadsN (by_ : Nat → Option Nat) : Nat → Nat → Nat → Prop
  | stop {x : Nat} (h : by_ x = none) : LeadsN by_ x x 0
  | step {x y r n : Nat} (h : by_ x = some y) (k : LeadsN by_ y r n) : LeadsN by_ x r (n + 1)
end Go.Proofs.YtncifeeinogcnaaGreatDoor
/- The contract of root. -/
set_option maxRecDepth 100000
namespace Go.Proofs.YtncifeeinogcnaaGreatDoor
open Go.RowKit Go.Lib Go.Proofs.TreeMath

theorem LeadsN.leads {by_ : Nat → Option Nat} {x r n : Nat} (h : LeadsN by_ x r n) : Leads by_ x r := by
  induction h with
  | stop h => exact .stop h
  | step h _ ih => exact .step h ih
theorem Leads.num {by_ : Nat → Option Nat} {x r : Nat} (h : Leads by_ x r) : ∃ n, LeadsN by_ x r n := by
  induction h with
  | stop h => exact ⟨0, .stop h⟩
  | step h _ ih => obtain ⟨n, hn⟩ := ih; exact ⟨n + 1, .step h hn⟩
theorem LeadsN.short {by_ : Nat → Option Nat} {x y z : Nat} (h1 : by_ x = some y) (h2 : by_ y = some z) {a r n : Nat} (h : LeadsN by_ a r n) : ∃ m, m ≤ n ∧ LeadsN (fun u => if u = x then some z else by_ u) a r m := by
  have skip : ∀ a r n, LeadsN by_ a r n → (∃ m, m ≤ n ∧ LeadsN (fun u => if u = x then some z else by_ u) a r m) ∧ (∀ c, by_ a = some c → ∃ m, m + 1 ≤ n ∧ LeadsN (fun u => if u = x then some z else by_ u) c r m) := by
    intro a r n h
    induction h with
    | @stop a h =>
      have hne : a ≠ x := by rintro rfl; rw [h] at h1; simp at h1
      exact ⟨⟨0, Nat.le_refl _, .stop (by simp [hne, h])⟩, fun c hc => by rw [h] at hc; simp at hc⟩
    | @step a c r n h k ih =>
      refine ⟨?_, fun c' hc => ?_⟩
      · by_cases e : a = x
        · subst e
          rw [h1] at h
          simp only [Option.some.injEq] at h
          subst h
          obtain ⟨m, hm, hl⟩ := ih.2 z h2
          exact ⟨m + 1, by omega, .step (by simp) hl⟩
        · obtain ⟨m, hm, hl⟩ := ih.1
          exact ⟨m + 1, by omega, .step (by simp [e, h]) hl⟩
      · rw [h] at hc
        simp only [Option.some.injEq] at hc
        subst hc
        obtain ⟨m, hm, hl⟩ := ih.1
        exact ⟨m, by omega, hl⟩
  exact (skip a r n h).1
theorem TB.short {B : Nat} {w : World} {S : SS} {by_ : Nat → Option Nat} (h : TB B w S by_) {y c d : Nat} (hy : y ∈ S.dom) (h1 : by_ y = some c) (h2 : by_ c = some d) :
    TB B (w.setCell ⟨y, 5, none⟩ (.pointer (some ⟨d, 0, none⟩))) S (fun u => if u = y then some d else by_ u) := by
  refine h.put hy _ S rfl rfl rfl rfl (fun x => (h.lead x).short h1 h2) (fun x z e => ?_) (fun u hu => ⟨by simp [hu], rfl, rfl⟩) (fun kv _ _ => ⟨kv, by simp [tmCells, pvo, pv], fun e => by simp at e⟩)
  by_cases e2 : x = y
  · simp only [e2, if_true, Option.some.injEq] at e
    subst e
    exact h.bin c _ h2
  · simp only [e2, if_false] at e
    exact h.bin x z e
end Go.Proofs.YtncifeeinogcnaaGreatDoor
/- Append onto a row of the call's own, whatever the source. -/
namespace Go
theorem run_append_any {P : Program} (w : World) (base : Nat) (t ty e : TypeId) (i : TypeInfo) (z : Value) (size bytes : Nat) (ht : P.underlying t = some (.slice e)) (hi : P.info? e = some i) (hz : i.zero = some z)
    (hsize : i.size = size) (hby : i.bytes = bytes) (hzs : z.cells.size = size) (hsz : 0 < size)
    (v : Value) (n : Nat) (xs : List Value) (hown : w.ownsRow base e size v n xs)
    (q : Option Addr) (m c : Nat) (news : List Value) (hl : news.length = m * size) (hq : m ≠ 0 → ∃ ad, q = some ad ∧ ∀ j u, news[j]? = some u → w.cell? (ad.add j) = some u) (h1 : ∀ u ∈ news, u.oneCell' = true)
    (h63 : n + m ≤ maxLen) (hbytes : (n + m) * bytes ≤ 140737488355328) (hbase : base ≤ w.heap.size) :
    ∃ v' w', (Builtin.append_ #[t, t] ty #[v, .slice q m c]).run P w = .ok v' w' ∧ w'.ownsRow base e size v' (n + m) (xs ++ news) ∧ w.grownBy w' v.ownBlock ∧
      (v' = .slice none 0 0 ↔ v = .slice none 0 0 ∧ m = 0) ∧ (v'.ownBlock = v.ownBlock ∨ v'.ownBlock = some w.heap.size) := by
  by_cases h0 : m = 0
  · subst h0
    obtain rfl : news = [] := List.eq_nil_of_length_eq_zero (by rw [hl]; simp)
    cases q with
    | some ad => exact run_append_own_at w base t ty e i z size bytes ht hi hz hsize hby hzs hsz v n xs hown ad 0 c [] hl (by simp) h1 h63 hbytes hbase
    | none =>
      subst hsize
      have hsrc : Src P i.size t (.slice none 0 c) 0 [] w := Src.ofNil w ht c
      rcases hown.2 with ⟨rfl, rfl⟩ | ⟨g, cap, cur, rfl, hbg, hg, hnc, hcm, hcs, htake⟩
      · have hx : xs = [] := List.eq_nil_of_length_eq_zero (by simpa using hown.1)
        subst hx
        refine ⟨.slice none 0 0, w, ?_, World.ownsRow_nil w base e i.size, ⟨rfl, rfl, rfl, Nat.le_refl _, fun _ _ _ => rfl⟩, by simp, Or.inl rfl⟩
        simp [Builtin.append_, run_underlying ht, sizeOf, typeInfo, hi, Builtin.lenOf, Builtin.firstCells]
      · have hr := run_append_room_src (P := P) w t t ty e i ht hi g 0 n cap (.slice none 0 c) 0 [] hsrc (by omega) (by simp) (by simp)
        exact ⟨_, w, hr, by simpa using hown, ⟨rfl, rfl, rfl, Nat.le_refl _, fun _ _ _ => rfl⟩, by simp, Or.inl rfl⟩
  · obtain ⟨ad, rfl, hnews⟩ := hq h0
    exact run_append_own_at w base t ty e i z size bytes ht hi hz hsize hby hzs hsz v n xs hown ad m c news hl hnews h1 h63 hbytes hbase
theorem wpList_append_any {P : Program} (w : World) {ops : Array Oper} {rest : List Oper} {o : Oper} {a : Act} {Q : Exit → Act → World → Prop} (hgd : o.guard = none) (s x : Operand) (t : TypeId)
    (ho : o.op = .call { callee := .builtin .append, args := #[s, x], argTypes := #[t, t] })
    (base : Nat) (e : TypeId) (i : TypeInfo) (z : Value) (size bytes : Nat) (ht : P.underlying t = some (.slice e)) (hi : P.info? e = some i) (hz : i.zero = some z)
    (hsize : i.size = size) (hby : i.bytes = bytes) (hzs : z.cells.size = size) (hsz : 0 < size)
    (v : Value) (n : Nat) (xs : List Value) (hs : a.eval s = v) (hown : w.ownsRow base e size v n xs)
    (q : Option Addr) (m c : Nat) (news : List Value) (hx : a.eval x = .slice q m c) (hl : news.length = m * size) (hq : m ≠ 0 → ∃ ad, q = some ad ∧ ∀ j u, news[j]? = some u → w.cell? (ad.add j) = some u) (h1 : ∀ u ∈ news, u.oneCell' = true)
    (h63 : n + m ≤ maxLen) (hbytes : (n + m) * bytes ≤ 140737488355328) (hbase : base ≤ w.heap.size)
    (h : ∀ p' cap' w', w'.ownsRow base e size (.slice p' (n + m) cap') (n + m) (xs ++ news) → w.grownBy w' v.ownBlock → ((Value.slice p' (n + m) cap').ownBlock = v.ownBlock ∨ (Value.slice p' (n + m) cap').ownBlock = some w.heap.size) → wpList P ops Q rest (a.put o.dst (.slice p' (n + m) cap')) w') : wpList P ops Q (o :: rest) a w := by
  obtain ⟨v', w', hr, h2, h3, h4, h5⟩ := run_append_any (P := P) w base t o.type e i z size bytes ht hi hz hsize hby hzs hsz v n xs hown q m c news hl hq h1 h63 hbytes hbase
  obtain ⟨p', cap', rfl⟩ : ∃ p' cap', v' = .slice p' (n + m) cap' := by
    rcases h2.2 with ⟨rfl, e⟩ | ⟨g, cap, cur, rfl, _⟩
    · exact ⟨none, 0, by rw [e]⟩
    · exact ⟨_, _, rfl⟩
  refine wpList_plain hgd fun K hK => ?_
  unfold Oper.wp execOp
  simp only [ho, resolve, invoke, builtin, Sem.run_bind, Sem.run_pure, Result.andThen_ok, List.map_toArray, List.map_cons, List.map_nil, hs, hx, hr]
  exact hK _ _ (h p' cap' w' h2 h3 h5)
/-- A row that lies behind a base lies behind an elder one. -/
theorem World.ownsRow.base {w : World} {b b' : Nat} {e : TypeId} {size n : Nat} {v : Value} {xs : List Value} (h : w.ownsRow b e size v n xs) (hb : b' ≤ b) : w.ownsRow b' e size v n xs := by
  refine ⟨h.1, ?_⟩
  rcases h.2 with h | ⟨g, cap, cur, hv, hg, rest⟩
  · exact .inl h
  · exact .inr ⟨g, cap, cur, hv, by omega, rest⟩
/-- It stays while its block does. -/
theorem World.ownsRow.keep {w w' : World} {base : Nat} {e : TypeId} {size n : Nat} {v : Value} {xs : List Value} (h : w.ownsRow base e size v n xs) (k : ∀ g, v.ownBlock = some g → w'.heap[g]? = w.heap[g]?) : w'.ownsRow base e size v n xs := by
  refine ⟨h.1, ?_⟩
  rcases h.2 with h | ⟨g, cap, cur, rfl, hb, hg, rest⟩
  · exact .inl h
  · exact .inr ⟨g, cap, cur, rfl, hb, (k g rfl).trans hg, rest⟩
/-- Its block is one that is there. -/
theorem World.ownsRow.there {w : World} {base : Nat} {e : TypeId} {size n : Nat} {v : Value} {xs : List Value} (h : w.ownsRow base e size v n xs) {g : Nat} (hg : v.ownBlock = some g) : base ≤ g ∧ g < w.heap.size := by
  rcases h.2 with ⟨rfl, _⟩ | ⟨g', cap, cur, rfl, hb, hg', _⟩
  · cases hg
  · simp [Value.ownBlock] at hg
    subst hg
    exact ⟨hb, (Array.getElem?_eq_some_iff.1 hg').1⟩
theorem step_append_any {P : Program} {ops : Array Oper} {o : Oper} {a : Act} {w : World} {K : Act → World → Prop} {Q : Exit → Act → World → Prop} {E : Prop} (hgd : o.guard = none) (s x : Operand) (t : TypeId)
    (ho : o.op = .call { callee := .builtin .append, args := #[s, x], argTypes := #[t, t] })
    (base : Nat) (e : TypeId) (i : TypeInfo) (z : Value) (size bytes : Nat) (ht : P.underlying t = some (.slice e)) (hi : P.info? e = some i) (hz : i.zero = some z)
    (hsize : i.size = size) (hby : i.bytes = bytes) (hzs : z.cells.size = size) (hsz : 0 < size)
    (v : Value) (n : Nat) (xs : List Value) (hs : a.eval s = v) (hown : w.ownsRow base e size v n xs)
    (q : Option Addr) (m c : Nat) (news : List Value) (hx : a.eval x = .slice q m c) (hl : news.length = m * size) (hq : m ≠ 0 → ∃ ad, q = some ad ∧ ∀ j u, news[j]? = some u → w.cell? (ad.add j) = some u) (h1 : ∀ u ∈ news, u.oneCell' = true)
    (h63 : n + m ≤ maxLen) (hbytes : (n + m) * bytes ≤ 140737488355328) (hbase : base ≤ w.heap.size)
    (h : ∀ p' cap' w', w'.ownsRow base e size (.slice p' (n + m) cap') (n + m) (xs ++ news) → w.grownBy w' v.ownBlock → ((Value.slice p' (n + m) cap').ownBlock = v.ownBlock ∨ (Value.slice p' (n + m) cap').ownBlock = some w.heap.size) → K (a.put o.dst (.slice p' (n + m) cap')) w') :
    if Region.wanted o (yielded ops a.tmps) = true then Oper.wp P o a w K Q else E := by
  have hw : Region.wanted o (yielded ops a.tmps) = true := by simp [Region.wanted, hgd]
  rw [if_pos hw]
  obtain ⟨v', w', hr, h2, h3, h4, h5⟩ := run_append_any (P := P) w base t o.type e i z size bytes ht hi hz hsize hby hzs hsz v n xs hown q m c news hl hq h1 h63 hbytes hbase
  obtain ⟨p', cap', rfl⟩ : ∃ p' cap', v' = .slice p' (n + m) cap' := by
    rcases h2.2 with ⟨rfl, e⟩ | ⟨g, cap, cur, rfl, _⟩
    · exact ⟨none, 0, by rw [e]⟩
    · exact ⟨_, _, rfl⟩
  unfold Oper.wp execOp
  simp only [ho, resolve, invoke, builtin, Sem.run_bind, Sem.run_pure, Result.andThen_ok, List.map_toArray, List.map_cons, List.map_nil, hs, hx, hr]
  exact h p' cap' w' h2 h3 h5
end Go
