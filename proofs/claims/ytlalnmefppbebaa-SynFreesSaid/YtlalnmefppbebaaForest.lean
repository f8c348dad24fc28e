/- Lists of nodes as forests: plain mathematics. -/
import Derived.Test.YtlalnmefppbebaaViews
namespace Go.Proofs.Ytlalnmefppbebaa
open Go.Proofs.TreeMath

/-- A list of trees: the first one's node, its kids, and the others. -/
inductive F where
  | nil
  | cons (n : Nd) (k r : F)
namespace F
def flat : F → List Nd
  | nil => []
  | cons n k r => n :: (k.flat ++ r.flat)
def cnt : F → Nat
  | nil => 0
  | cons _ _ r => r.cnt + 1
def sz : F → Nat
  | nil => 0
  | cons _ k r => 1 + k.sz + r.sz
/-- Each node has as many kids as it says. -/
def ok : F → Prop
  | nil => True
  | cons n k r => n.kids = k.cnt ∧ k.ok ∧ r.ok
theorem flat_length (f : F) : f.flat.length = f.sz := by
  induction f with
  | nil => rfl
  | cons n k r hk hr => simp [flat, sz, hk, hr]; omega
theorem cnt_le (f : F) : f.cnt ≤ f.sz := by
  induction f with
  | nil => exact Nat.le_refl _
  | cons n k r hk hr => simp only [cnt, sz]; omega
end F
theorem kk_append (a b : List Nd) : kk (a ++ b) = kk a ++ kk b := by simp [kk]
theorem kk_cons (n : Nd) (l : List Nd) : kk (n :: l) = n.kids :: kk l := rfl
theorem scan_flat (f : F) : f.ok → ∀ R : List Int, scan (kk f.flat ++ R) f.cnt = some f.sz := by
  induction f with
  | nil => intro _ R; exact scan_zero _
  | cons n k r hk hr =>
    rintro ⟨h1, h2, h3⟩ R
    have a := hk h2 (kk r.flat ++ R)
    have b := hr h3 R
    simp only [F.flat, F.cnt, F.sz, kk_cons, kk_append, List.cons_append, List.append_assoc]
    rw [scan_cons, if_neg (by omega), h1, Int.toNat_natCast, Nat.add_comm r.cnt, scan_add, a]
    simp only [Option.bind_some]
    have hl : (kk k.flat).length = k.sz := by rw [length_kk, F.flat_length]
    rw [← hl, List.drop_left, b, hl]
    simp
    omega
theorem forest_of : ∀ (m : Nat) (ns : List Nd) (o t : Nat), ns.length ≤ m → scan (kk ns) o = some t → ∃ f : F, f.ok ∧ f.cnt = o ∧ f.flat = ns.take t := by
  intro m
  induction m with
  | zero =>
    intro ns o t hm h
    obtain rfl : ns = [] := List.length_eq_zero_iff.1 (by omega)
    cases o with
    | zero => exact ⟨.nil, trivial, rfl, by simp [F.flat]⟩
    | succ o => simp [kk, scan] at h
  | succ m ih =>
    intro ns o t hm h
    cases o with
    | zero =>
      rw [scan_zero] at h
      obtain rfl : 0 = t := Option.some.inj h
      exact ⟨.nil, trivial, rfl, by simp [F.flat]⟩
    | succ o =>
      cases ns with
      | nil => simp [kk, scan] at h
      | cons n ns =>
        rw [kk_cons, scan_cons] at h
        split at h
        · simp at h
        · rename_i hn
          rw [Nat.add_comm o, scan_add] at h
          cases ha : scan (kk ns) n.kids.toNat with
          | none => rw [ha] at h; simp at h
          | some a =>
            rw [ha] at h
            simp only [Option.bind_some] at h
            have e : (kk ns).drop a = kk (ns.drop a) := by simp [kk]
            rw [e] at h
            cases hb : scan (kk (ns.drop a)) o with
            | none => rw [hb] at h; simp at h
            | some b =>
              rw [hb] at h
              simp only [Option.map_some, Option.some.injEq] at h
              subst h
              obtain ⟨k, k1, k2, k3⟩ := ih ns _ _ (by simp at hm; omega) ha
              obtain ⟨r, r1, r2, r3⟩ := ih (ns.drop a) _ _ (by simp at hm ⊢; omega) hb
              refine ⟨.cons n k r, ⟨by omega, k1, r1⟩, by simp [F.cnt, r2], ?_⟩
              simp only [F.flat, k3, r3]
              rw [List.take_succ_cons, List.take_add]
theorem doc_of (ns : List Nd) (h : wholeB (kk ns) = true) : ∃ f : F, f.ok ∧ f.cnt = 1 ∧ f.flat = ns := by
  obtain ⟨f, h1, h2, h3⟩ := forest_of ns.length ns 1 _ (Nat.le_refl _) ((wholeB_iff _).1 h)
  exact ⟨f, h1, h2, by rw [h3, length_kk, List.take_length]⟩
theorem whole_flat (f : F) (h : f.ok) (hc : f.cnt = 1) : wholeB (kk f.flat) = true := by
  rw [wholeB_iff]
  have := scan_flat f h []
  rw [List.append_nil, hc] at this
  rw [this, length_kk, F.flat_length]
/-- A forest within a list. -/
theorem fin_flat (f : F) (h : f.ok) (pre post : List Nd) : fin (kk (pre ++ (f.flat ++ post))) pre.length f.cnt = ((pre.length + f.sz : Nat) : Int) := by
  have e : (kk (pre ++ (f.flat ++ post))).drop pre.length = kk f.flat ++ kk post := by
    rw [kk_append, kk_append, List.drop_append_of_le_length (by rw [length_kk]; omega), List.drop_eq_nil_of_le (by rw [length_kk]; omega), List.nil_append]
  unfold fin
  rw [e, scan_flat f h]
/-- Where the trees of a forest begin. -/
def startsF : F → Nat → List Nat
  | .nil, _ => []
  | .cons _ k r, p => p :: startsF r (p + 1 + k.sz)
theorem startsF_length (f : F) : ∀ p, (startsF f p).length = f.cnt := by
  induction f with
  | nil => intro p; rfl
  | cons n k r _ hr => intro p; simp [startsF, F.cnt, hr]
theorem starts_flat (f : F) : f.ok → ∀ pre post : List Nd, starts (kk (pre ++ (f.flat ++ post))) pre.length f.cnt = startsF f pre.length := by
  induction f with
  | nil => intro _ pre post; rfl
  | cons n k r _ hr =>
    rintro ⟨h1, h2, h3⟩ pre post
    have t : fin (kk (pre ++ ((F.cons n k .nil).flat ++ (r.flat ++ post)))) pre.length 1 = ((pre.length + (1 + k.sz) : Nat) : Int) := fin_flat (.cons n k .nil) ⟨h1, h2, trivial⟩ pre (r.flat ++ post)
    have e : pre ++ ((F.cons n k r).flat ++ post) = pre ++ ((F.cons n k .nil).flat ++ (r.flat ++ post)) := by simp [F.flat]
    have e2 : pre ++ ((F.cons n k .nil).flat ++ (r.flat ++ post)) = (pre ++ (F.cons n k .nil).flat) ++ (r.flat ++ post) := by simp
    have hl : (pre ++ (F.cons n k .nil).flat).length = pre.length + (1 + k.sz) := by simp [F.flat, F.flat_length]; omega
    rw [e]
    simp only [F.cnt, starts_succ, startsF]
    rw [t, Int.toNat_natCast, e2, ← hl, hr h3, hl]
    congr 2
    omega
theorem kids_flat (n : Nd) (k : F) (h1 : n.kids = k.cnt) (h2 : k.ok) (pre post : List Nd) : kidsI (kk (pre ++ (n :: (k.flat ++ post)))) pre.length = startsF k (pre.length + 1) := by
  have t : fin (kk (pre ++ ((F.cons n k .nil).flat ++ post))) pre.length 1 = ((pre.length + (1 + k.sz) : Nat) : Int) := fin_flat (.cons n k .nil) ⟨h1, h2, trivial⟩ pre post
  have e : pre ++ ((F.cons n k .nil).flat ++ post) = pre ++ (n :: (k.flat ++ post)) := by simp [F.flat]
  rw [e] at t
  have g : (kk (pre ++ (n :: (k.flat ++ post)))).getD pre.length 0 = n.kids := by
    rw [kk_get]
    simp [List.getD_eq_getElem?_getD]
  unfold kidsI
  rw [endI_nat, t, if_neg (by omega), Int.toNat_natCast, g, h1, Int.toNat_natCast]
  have := starts_flat k h2 (pre ++ [n]) post
  simpa using this

end Go.Proofs.Ytlalnmefppbebaa
