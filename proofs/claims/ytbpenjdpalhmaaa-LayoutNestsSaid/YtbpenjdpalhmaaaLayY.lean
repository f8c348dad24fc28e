/- The laws' long, bare. -/
import Derived.Test.YtbpenjdpalhmaaaLayT
namespace Go.Proofs.Ytbpenjdpalhmaaa
open Go.Shelf Go.RowKit Go.Lib Go.Sort Go.Proofs.TreeMath
def longB (ns : List Nd) : Bool := ns.any fun n => decide (100 < n.text.size)
theorem longB_take (ns : List Nd) (i : Nat) (h : i < ns.length) (hl : decide (100 < (ns.getD i default).text.size) = true) : longB ns = true := by
  refine List.any_eq_true.2 ⟨ns.getD i default, ?_, hl⟩
  rw [List.getD_eq_getElem?_getD, List.getElem?_eq_getElem h]
  exact List.getElem_mem h
theorem longB_none (ns : List Nd) (h : ∀ i, i < ns.length → (ns.getD i default).text.size ≤ 100) : longB ns = false := by
  rw [← Bool.not_eq_true]
  intro ha
  obtain ⟨x, hx, hn⟩ := List.any_eq_true.1 ha
  obtain ⟨j, hj, rfl⟩ := List.getElem_of_mem hx
  have := h j hj
  rw [List.getD_eq_getElem?_getD, List.getElem?_eq_getElem hj, Option.getD_some] at this
  simp at hn
  omega
theorem longB_le (ns : List Nd) (h : longB ns = false) : ∀ x ∈ ns, x.text.size ≤ 100 := by
  intro x hx
  have := (List.any_eq_false.1 h) x hx
  simpa using this
theorem long_go (b off n c : Nat) (ns : List Nd) (w : World) (hl : Hid (ns.length = n)) (hn : n ≤ 1000000) (hc : Hid (CellsIn w b off (nodeCells ns))) :
    Calls Try.prog 9 #[.slice (some ⟨b, off, none⟩) n c] w fun e w' => e = .returned (.bool (longB ns)) ∧ w = w' := by
  obtain ⟨D, hD⟩ : ∃ D, D = longB ns := ⟨_, rfl⟩
  rw [← hD]
  have HD := Lib.hid hD
  clear hD
  go_enter Try.func9, Try.ntmps9
  go_wp2
  go_loop [3] (fun t3 => ∃ i : Nat, i ≤ n ∧ t3 = .int .i64 (i : Int) ∧ ∀ j, j < i → (ns.getD j default).text.size ≤ 100) (fun t3 => n - (intOf t3).toNat)
  case atStart => exact ⟨0, Nat.zero_le _, rfl, fun j hj => by omega⟩
  case round =>
    obtain ⟨i, hi, rfl, hpre⟩ := hrel
    have HP := Lib.hid hpre
    clear hpre
    by_cases hlt : i < n
    · have hin : i < ns.length := by rw [hl.out]; exact hlt
      obtain ⟨_, c1, _, _⟩ := hc.out.node i hin
      have LG := Lib.hid (longB_take ns i hin)
      obtain ⟨nd, hnd⟩ : ∃ nd, nd = ns.getD i default := ⟨_, rfl⟩
      rw [← hnd] at c1 LG
      have HND := Lib.hid hnd
      clear hnd hin
      obtain ⟨k, s, m, d⟩ := nd
      simp only at c1
      by_cases hs : 100 < s.size
      · have e1 : decide ((100 : Int) < (s.size : Int)) = true := by simp; omega
        go_wp2
        go_ret
        exact ⟨by rw [HD.out, LG.out (by simpa using hs)]; rfl, rfl⟩
      · have e1 : decide ((100 : Int) < (s.size : Int)) = false := by simp; omega
        go_wp2
        go_round
        case rel =>
          refine ⟨i + 1, by omega, by go_num, fun j hj => ?_⟩
          rcases Nat.lt_or_ge j i with h | h
          · exact HP.out j h
          · rw [show j = i by omega, ← HND.out]
            simp only
            omega
        case measure => simp [intOf]; omega
    · have NO := Lib.hid (longB_none ns fun j hj => HP.out j (by rw [hl.out] at hj; omega))
      go_wp2
      go_ret
      exact ⟨by rw [HD.out, NO.out]; rfl, rfl⟩
theorem long_zero (p : Option Addr) (c : Nat) (w : World) : Calls Try.prog 9 #[.slice p 0 c] w fun e w' => e = .returned (.bool false) ∧ w = w' := by
  go_enter Try.func9, Try.ntmps9
  go_wp2
  refine wp_loop_rounds 1 ?_
  rw [rounds_succ]
  go_wp2
  go_ret
  exact ⟨rfl, rfl⟩
theorem long_any (v : Value) (ns : List Nd) (w : World) (h : NodesAt w v ns) (hn : ns.length ≤ 1000000) : Calls Try.prog 9 #[v] w fun e w' => e = .returned (.bool (longB ns)) ∧ w = w' := by
  obtain ⟨_, p, c, rfl, _, _, hp⟩ := h
  rcases ns with _ | ⟨x, ns⟩
  · exact long_zero p c w
  · obtain ⟨b, off, rfl, hb, hc⟩ := hp (by simp)
    exact long_go b off _ c (x :: ns) w (Lib.hid rfl) hn (Lib.hid hc)
/-- Without blanks and line feeds. -/
def keepC (c : UInt8) : Bool := c != 32 && c != 10
def bareL (l : List UInt8) : List UInt8 := l.filter keepC
theorem bareL_append (a b : List UInt8) : bareL (a ++ b) = bareL a ++ bareL b := List.filter_append ..
theorem bareL_snoc (s : ByteArray) (i : Nat) (h : i < s.size) : bareL (s.data.toList.take (i + 1)) = bareL (s.data.toList.take i) ++ (if keepC s[i] = true then [s[i]] else []) := by
  have hl : i < s.data.toList.length := by simpa using h
  rw [List.take_succ_eq_append_getElem hl, bareL_append]
  congr 1
  unfold bareL
  rw [List.filter_cons]
  rfl
theorem keepC_form (c : UInt8) : keepC c = (decide (((c.toNat : Int) ≠ 32)) && decide ((c.toNat : Int) ≠ 10)) := by
  unfold keepC
  have key : ∀ k : UInt8, (c != k) = decide ((c.toNat : Int) ≠ (k.toNat : Int)) := by
    intro k
    by_cases h : c = k
    · subst h; simp
    · have : c.toNat ≠ k.toNat := fun e => h (UInt8.toNat_inj.1 e)
      have h2 : (c.toNat : Int) ≠ (k.toNat : Int) := by omega
      simp [h, h2]
  rw [key 32, key 10]
  rfl
theorem bare_any (s : ByteArray) (w : World) (hs : s.size ≤ 1000000000000) : Calls Try.prog 24 #[.string s] w fun e w' => e = .returned (.string (bs (bareL s.data.toList))) ∧ w = w' := by
  go_enter Try.func24, Try.ntmps24
  go_wp2
  go_loop [3, 4] (fun t3 t4 => ∃ i : Nat, i ≤ s.size ∧ t4 = .int .i64 (i : Int) ∧ t3 = .string (bs (bareL (s.data.toList.take i)))) (fun _ t4 => s.size - (intOf t4).toNat)
  case atStart => exact ⟨0, Nat.zero_le _, rfl, rfl⟩
  case round =>
    obtain ⟨i, hi, rfl, rfl⟩ := hrel
    by_cases hlt : i < s.size
    · have hsn := bareL_snoc s i hlt
      have hkf := keepC_form s[i]
      have hlen : (bareL (s.data.toList.take i)).length ≤ i := Nat.le_trans (List.length_filter_le _ _) (List.length_take_le _ _)
      obtain ⟨A, hA⟩ : ∃ A, A = bareL (s.data.toList.take i) := ⟨_, rfl⟩
      rw [← hA] at hsn hlen ⊢
      have hza : (bs A).size ≤ 1000000000000 := by rw [bs_size]; omega
      have zk : (bs [s[i]]).size ≤ 1 := by rw [bs_size]; simp
      have hcut := fun W => cut_one s i hlt W
      have HS := Lib.hid hsn
      have HA := Lib.hid hA
      have HK := Lib.hid hkf
      clear hsn hA hkf hlen
      by_cases h1 : (s[i].toNat : Int) = 32
      · have e1 : ((s[i].toNat : Int) != 32) = false := by simpa using h1
        have KN : Hid (keepC s[i] = false) := Lib.hid (by rw [HK.out]; simp [h1])
        clear h1
        go_wp2
        go_round
        case rel => exact ⟨i + 1, by omega, by go_num, by rw [HS.out, KN.out]; simp⟩
        case measure => simp [intOf]; omega
      · by_cases h2 : (s[i].toNat : Int) = 10
        · have e1 : ((s[i].toNat : Int) != 32) = true := by simpa using h1
          have e2 : ((s[i].toNat : Int) != 10) = false := by simpa using h2
          have KN : Hid (keepC s[i] = false) := Lib.hid (by rw [HK.out]; simp [h2])
          clear h1 h2
          go_wp2
          go_round
          case rel => exact ⟨i + 1, by omega, by go_num, by rw [HS.out, KN.out]; simp⟩
          case measure => simp [intOf]; omega
        · have e1 : ((s[i].toNat : Int) != 32) = true := by simpa using h1
          have e2 : ((s[i].toNat : Int) != 10) = true := by simpa using h2
          have KN : Hid (keepC s[i] = true) := Lib.hid (by rw [HK.out]; simp [h1, h2])
          clear h1 h2
          go_wp2
          go_round
          case rel => exact ⟨i + 1, by omega, by go_num, by rw [HS.out, KN.out, if_pos rfl, ← bs_append]⟩
          case measure => simp [intOf]; omega
    · go_wp2
      go_ret
      exact ⟨by rw [List.take_of_length_le (by simp; omega)]; rfl, rfl⟩
end Go.Proofs.Ytbpenjdpalhmaaa
