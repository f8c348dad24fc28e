/- Texts of this seat, one behind the other: LwE. -/
import Derived.Test.YtncifeeinogcnaaGreatDoorKn26
/- The laws' mathematics: what was made the same. -/
set_option maxRecDepth 100000
namespace Go.Proofs.YtncifeeinogcnaaGreatDoor
open Go.RowKit Go.Lib Go.Maps Go.Proofs.TreeMath

def NumOk (t : List Nd) : Prop := ∀ n ∈ t, -9223372036854775808 ≤ n.num ∧ n.num ≤ 9223372036854775807
theorem ty_num {t : List Nd} (h : tyB t = true) : NumOk t := fun n hn => by
  unfold tyB at h
  simp only [Bool.and_eq_true, List.all_eq_true] at h
  have := h.2 n hn
  unfold rightN at this
  split at this
  · simp only [Bool.and_eq_true, decide_eq_true_eq] at this
    omega
  · split at this
    · simp only [Bool.and_eq_true, beq_iff_eq] at this
      omega
    · simp at this
theorem wv_flat (f : F) (h : wv f) : ∀ n ∈ f.flat, n.kind = 31 → n = vN n.num := by
  induction f with
  | nil => intro n hn; simp [F.flat] at hn
  | cons m k r hk hr =>
    obtain ⟨h1, h2, h3⟩ := h
    intro n hn hv
    simp only [F.flat, List.mem_cons, List.mem_append] at hn
    rcases hn with rfl | hn | hn
    · exact (h1 hv).1
    · exact hk h2 n hn hv
    · exact hr h3 n hn hv
theorem wvT_flat (t : T) (h : wvT t) : ∀ n ∈ flatT t, n.kind = 31 → n = vN n.num := wv_flat _ ((wv_cons t .nil).2 ⟨h, trivial⟩)
theorem rs_len (s : Int → T) (hz : ∀ v, szT (s v) ≤ 4000) (t : List Nd) : (rs s t).length ≤ 4000 * t.length := by
  induction t with
  | nil => simp [rs]
  | cons n t ih =>
    have e : rs s (n :: t) = rs1 s n ++ rs s t := by simp [rs]
    rw [e, List.length_append, List.length_cons]
    have : (rs1 s n).length ≤ 4000 := by
      unfold rs1
      split
      · rw [flatT_length]; exact hz _
      · simp
    omega
theorem UyOut.good {la lb : List Nd} {l : List (Int × List Nd)} (h : UyOut la lb 0 l) (sa : SmallN la) (sb : SmallN lb) :
    ∃ X : List Nd, (∀ bs : List BT, prs bs = l → apN (gB bs) la = X ∧ apN (gB bs) lb = X ∧ ∀ p ∈ l, apN (gB bs) p.2 = p.2) ∧ (∀ p ∈ l, p.2.length ≤ 4000 ∧ NumOk p.2) ∧ X.length ≤ 4000 * la.length ∧ (X.length ≤ 4000 → tyB X = true ∧ SmallN X ∧ UyOut X X 0 []) ∧ NumOk la ∧ NumOk lb ∧ (l.map Prod.fst).Pairwise (· < ·) := by
  cases h with
  | form hb hc hl => exact absurd hc (by decide)
  | clash ta tb na nb ka kb ea eb oa ob hn hc hl => exact absurd hc (by decide)
  | great ta tb na nb ka kb ea eb oa ob s hs v hv hc hl => exact absurd hc (by decide)
  | ok ta tb na nb ka kb ea eb oa ob s hs ks hp hk kr hz hn hc hl =>
    have wa : wvT (na, ka) := ((wv_cons (na, ka) .nil).1 (okF_wv _ oa)).1
    have wb : wvT (nb, kb) := ((wv_cons (nb, kb) .nil).1 (okF_wv _ ob)).1
    have fla : la = flatT (na, ka) := by rw [ea]; simp [flatT, F.flat]
    have flb : lb = flatT (nb, kb) := by rw [eb]; simp [flatT, F.flat]
    have back : ∀ (n : Nd) (k : F), tyB (n :: k.flat) = true → (F.cons n k .nil).ok → SmallN (n :: k.flat) → allCT RCn (n, k) ∧ ∀ v ∈ vsT (n, k), 0 ≤ v ∧ v ≤ 1048576 := fun n k ht hf hs => by
      have e : (F.cons n k .nil).flat = n :: k.flat := by simp [F.flat]
      unfold tyB at ht
      simp only [Bool.and_eq_true, List.all_eq_true] at ht
      obtain ⟨a, b⟩ := right_back (.cons n k .nil) hf (by rw [e]; exact ht.2) (by rw [e]; exact hs)
      exact ⟨a.1, fun v hv => b v (by simp only [vs, List.append_nil]; unfold vsT at hv; exact hv)⟩
    obtain ⟨a1, a2⟩ := back na ka (by rw [← ea]; exact ta) (okF_ok _ oa) (by rw [← ea]; exact sa)
    obtain ⟨b1, b2⟩ := back nb kb (by rw [← eb]; exact tb) (okF_ok _ ob) (by rw [← eb]; exact sb)
    have hC := hs.allC (P := RCn) fun e he => by rw [List.mem_singleton] at he; subst he; exact ⟨a1, b1⟩
    have hV := hs.vars (V := fun v => 0 ≤ v ∧ v ≤ 1048576) fun e he => by rw [List.mem_singleton] at he; subst he; exact ⟨a2, b2⟩
    have hun : subT s (na, ka) = subT s (nb, kb) := hs.un _ List.mem_cons_self
    refine ⟨flatT (subT s (na, ka)), fun bs hbs => ?_, fun p hm => ?_, ?_, fun hx => ?_, ty_num ta, ty_num tb, by rw [hl]; exact binds_asc s ks hp⟩
    · have hb' : prs bs = bindsOf s ks := hbs.trans hl
      refine ⟨?_, ?_, fun p hm => ?_⟩
      · rw [ap_binds hb' hk la (by rw [fla]; exact wvT_flat _ wa), fla, rs_tree s _ wa]
      · rw [ap_binds hb' hk lb (by rw [flb]; exact wvT_flat _ wb), flb, rs_tree s _ wb, hun]
      · rw [hl] at hm
        obtain ⟨_, _, e⟩ := binds_mem s ks p hm
        rw [e, ap_binds hb' hk _ (wvT_flat _ (hs.wf _)), rs_tree s _ (hs.wf _), hs.idem]
    · rw [hl] at hm
      obtain ⟨h1, _, e⟩ := binds_mem s ks p hm
      rw [e]
      exact ⟨by rw [flatT_length]; exact hz _, ty_num (tyB_tree _ (hs.wf _) (hC _) (hV _ (kr _ h1)) (hz _)).1⟩
    · rw [← rs_tree s _ wa, ← fla]; exact rs_len s hz la
    · rw [flatT_length] at hx
      obtain ⟨t1, t2⟩ := tyB_tree _ (wvT_subT hs.wf _ wa) (allCT_sub RCn s _ a1 hC) (vsT_sub _ s _ a2 hV wa hs.wf) hx
      refine ⟨t1, t2, ?_⟩
      obtain ⟨n, k, e, o, _, _⟩ := ty_tree t1
      exact .ok t1 t1 n n k k e e o o vT (Mgu.self _) [] List.Pairwise.nil (fun v h => absurd rfl h) (fun v h => by simp at h) (fun v => by show (1 : Nat) + 0 ≤ 4000; decide) (by decide) rfl rfl
end Go.Proofs.YtncifeeinogcnaaGreatDoor
