/- Texts of this seat, one behind the other: DfB, Ref. -/
import Derived.Test.YtncifeeinogcnaaGreatDoorKn28
import Derived.Test.YtncifeeinogcnaaGreatDoorKn30
import Derived.BigQuiet
import Derived.Test.YtncifeeinogcnaaGreatDoorKn26
import Derived.Test.YtncifeeinogcnaaGreatDoorKn03
/- The document's named, known. -/
set_option maxRecDepth 100000
namespace Go.Proofs.YtncifeeinogcnaaGreatDoor
open Go.Shelf Go.RowKit Go.Lib Go.Sort Go.Maps Go.Proofs.TreeMath Go.Proofs.LexMath

theorem named_any (s : ByteArray) (w : World) (hs : s.size ≤ 100000000) : Calls Tryz.prog 65 #[.string s] w (BRw (nameB s) w) := by
  have R := Lib.hid (fun W => Lx.rright_any ⟨2, s, 0, 0⟩ W hs)
  have E : Hid (∀ w', Below w.heap.size w w' → BRw (nameB s) w (.returned (.bool (nameB s))) w') := Lib.hid fun w' h => ⟨rfl, h⟩
  rw [show rightB ⟨2, s, 0, 0⟩ = nameB s from rfl] at R
  unfold Lx.tokV at R
  generalize nameB s = y at *
  generalize BRw y w = Z at *
  go_enter Tryz.func65, Tryz.ntmps65
  go_wp2_with fail
  refine (R.out _).mono ?_
  rintro e w1 ⟨rfl, b1⟩
  have F := Lib.hid (E.out _ b1)
  clear b1 R
  go_wp2
  first | go_ret | skip
  exact F.out
def isD (n : Nd) (d : Dt) : Bool := decide (d.name = n.text) && decide (d.params = n.kids)
def knownB (ds : List Dt) (n : Nd) : Bool := ds.any (isD n)
theorem any_take_false {α : Type} [Inhabited α] (p : α → Bool) (l : List α) (i : Nat) (hi : i < l.length) (h : (l.take i).any p = false) (hx : p (l.getD i default) = false) : (l.take (i + 1)).any p = false := by
  rw [List.take_succ_eq_append_getElem hi, List.any_append, h]
  rw [List.getD_eq_getElem?_getD, List.getElem?_eq_getElem hi] at hx
  simpa using hx
theorem any_of_get {α : Type} [Inhabited α] (p : α → Bool) (l : List α) (i : Nat) (hi : i < l.length) (hx : p (l.getD i default) = true) : l.any p = true := List.any_eq_true.2 ⟨_, getD_mem l i hi, hx⟩
theorem any_of_all {α : Type} (p : α → Bool) (l : List α) (i : Nat) (hi : i = l.length) (h : (l.take i).any p = false) : l.any p = false := by rw [hi, List.take_length] at h; exact h
theorem known_any (lv : Value) (ds : List Dt) (nd : Nd) (w : World) (h : DtsAt w lv ds) (hn : ds.length ≤ 1000000) : Calls Tryz.prog 66 #[lv, nd.val] w (BRw (knownB ds nd) w) := by
  have H := Lib.hid h
  obtain ⟨lq, lc, rfl⟩ := h.form
  obtain ⟨n, hnn⟩ : ∃ n, n = ds.length := ⟨_, rfl⟩
  have HN := Lib.hid hnn
  have E : ∀ b, knownB ds nd = b → Hid (∀ w', Below w.heap.size w w' → BRw (knownB ds nd) w (.returned (.bool b)) w') := fun b e => Lib.hid fun w' h => ⟨by rw [e], h⟩
  have YES : Hid (∀ i, i < n → isD nd (ds.getD i default) = true → ∀ w', Below w.heap.size w w' → BRw (knownB ds nd) w (.returned (.bool true)) w') := Lib.hid fun i hi h => (E true (any_of_get _ ds i (by rw [← hnn]; exact hi) h)).out
  have NO : Hid ((ds.take n).any (isD nd) = false → ∀ w', Below w.heap.size w w' → BRw (knownB ds nd) w (.returned (.bool false)) w') := Lib.hid fun h => (E false (any_of_all _ ds n hnn h)).out
  have NXT : Hid (∀ i, i < n → (ds.take i).any (isD nd) = false → isD nd (ds.getD i default) = false → (ds.take (i + 1)).any (isD nd) = false) := Lib.hid fun i hi => any_take_false _ ds i (by rw [← hnn]; exact hi)
  have ISD : Hid (∀ d, isD nd d = (decide (d.name = nd.text) && decide (d.params = nd.kids))) := Lib.hid fun d => rfl
  rw [← hnn] at hn ⊢
  obtain ⟨k, s, nm, c⟩ := nd
  unfold Nd.val
  simp only at ISD ⊢
  obtain ⟨wb, hwb⟩ : ∃ wb, wb = w.alloc (.cells #[.int .i64 k, .string s, .int .i64 nm, .int .i64 c] 58) := ⟨_, rfl⟩
  have BX : Hid (Below w.heap.size w wb) := Lib.hid (by rw [hwb]; exact box_keep _)
  have HX := heap_alloc_new w (.cells #[.int .i64 k, .string s, .int .i64 nm, .int .i64 c] 58)
  rw [← hwb] at HX
  have HW := Lib.hid hwb
  have hlt0 : w.heap.size < wb.heap.size := (Array.getElem?_eq_some_iff.1 HX).1
  have FR : Hid (∀ wr, Below wb.heap.size wb wr → wr.cell? ⟨w.heap.size, 1, none⟩ = some (.string s) ∧ wr.cell? ⟨w.heap.size, 3, none⟩ = some (.int .i64 c)) := Lib.hid fun wr hb => by
    have h1 := Lib.cell_of_heap HX 1
    have h3 := Lib.cell_of_heap HX 3
    exact ⟨(hb.cell (p := ⟨w.heap.size, 1, none⟩) hlt0).trans h1, (hb.cell (p := ⟨w.heap.size, 3, none⟩) hlt0).trans h3⟩
  generalize BRw (knownB ds ⟨k, s, nm, c⟩) w = Z at *
  generalize isD ⟨k, s, nm, c⟩ = isd at *
  clear h hnn HX E hwb
  go_enter Tryz.func66, Tryz.ntmps66
  go_wp2
  rw [← HW.out]
  go_loopw [5] (fun s5 wr => ∃ i : Nat, i ≤ n ∧ s5 = .int .i64 i ∧ Hid (Below wb.heap.size wb wr) ∧ Hid ((ds.take i).any isd = false)) (fun s5 _ => n - (intOf s5).toNat)
  case atStart => exact ⟨0, Nat.zero_le _, rfl, Lib.hid (Below.refl _ _), Lib.hid rfl⟩
  case round =>
    obtain ⟨wo, hwo⟩ : ∃ wo : World, wo = wr := ⟨_, rfl⟩
    subst hwo
    obtain ⟨i, hi, rfl, hB, hF⟩ := hrel
    have BW := Lib.hid (BX.out.trans (hB.out.mono BX.out.size))
    obtain ⟨y1, y3⟩ := FR.out wo hB.out
    by_cases hlt : i < n
    · have t1 : decide ((i : Int) < (n : Int)) = true := by simpa using hlt
      obtain ⟨b, o, c', e, hb, c0, c1, _⟩ := (H.out.below BW.out).cell i (by rw [← HN.out]; exact hlt)
      simp only [Value.slice.injEq] at e
      obtain ⟨rfl, -, -⟩ := e
      have YESI := Lib.hid (YES.out i hlt)
      have NXI := Lib.hid (NXT.out i hlt hF.out)
      have ISI := Lib.hid (ISD.out (ds.getD i default))
      generalize ds.getD i default = d at *
      obtain ⟨dn, hdn⟩ : ∃ dn, dn = d.name := ⟨_, rfl⟩
      obtain ⟨dp, hdp⟩ : ∃ dp, dp = d.params := ⟨_, rfl⟩
      rw [← hdn] at c0 ISI
      rw [← hdp] at c1 ISI
      clear hdn hdp hF hb H NO NXT YES ISD
      by_cases hs : dn = s
      · subst hs
        have hs' : decide (dn = dn) = true := decide_eq_true rfl
        by_cases hp : dp = c
        · have hp' : decide (dp = c) = true := by simpa using hp
          have hp2 : (dp == c) = true := by simpa using hp
          have F := Lib.hid (fun nq => YESI.out (by rw [ISI.out, hs', hp']; rfl) (wo.drewN nq) (below_drewN BW.out nq))
          clear YESI NXI ISI hp hs'
          go_wp2
          go_quiet (fail)
          go_wp2
          first | go_ret | skip
          exact F.out _
        · have hp' : decide (dp = c) = false := by simpa using hp
          have hp2 : (dp == c) = false := by simpa using hp
          have G := Lib.hid (NXI.out (by rw [ISI.out, hs', hp']; rfl))
          clear YESI NXI ISI hp hs'
          go_wp2
          go_quiet (fail)
          go_wp2
          go_roundw
          case rel => exact ⟨i + 1, by omega, by go_num, Lib.hid (below_drewN hB.out _), G⟩
          case measure => simp [intOf]; omega
      · have hs' : decide (dn = s) = false := by simpa using hs
        have t2 := str_ne hs
        have t3 := str_ne' hs
        have G := Lib.hid (NXI.out (by rw [ISI.out, hs']; rfl))
        clear YESI NXI ISI hs hs'
        go_wp2
        go_quiet (fail)
        go_wp2
        go_roundw
        case rel => exact ⟨i + 1, by omega, by go_num, Lib.hid (below_drewN hB.out _), G⟩
        case measure => simp [intOf]; omega
    · obtain rfl : i = n := by omega
      have t1 : decide ((i : Int) < (i : Int)) = false := by simp
      have F := Lib.hid (NO.out hF.out _ BW.out)
      clear hF
      go_wp2
      first | go_ret | skip
      exact F.out
end Go.Proofs.YtncifeeinogcnaaGreatDoor
/- The document's own answers: End, Whole, Kids, Sub, Make. -/
set_option maxRecDepth 100000
namespace Go.Proofs.YtncifeeinogcnaaGreatDoor
open Go.RowKit Go.Proofs.TreeMath
theorem ref_out (p : Option Addr) (n c : Nat) (i : Int) (w : World) (h : i < 0 ∨ (n : Int) ≤ i) :
    Calls Tryz.prog 88 #[.slice p n c, .int .i64 i] w fun e w' => e = .returned (.int .i64 (-1)) ∧ w = w' := by
  by_cases h0 : i < 0
  · go_enter Tryz.func88, Tryz.ntmps88
    go_wp2
    go_ret
    exact ⟨rfl, rfl⟩
  · have h1 : (n : Int) ≤ i := by omega
    clear h
    go_enter Tryz.func88, Tryz.ntmps88
    go_wp2
    go_ret
    exact ⟨rfl, rfl⟩
theorem ref_bad (b off n c i : Nat) (k : Int) (w : World) (hi : i < n) (hk : w.cell? ⟨b, off + i * 4 + 3, none⟩ = some (.int .i64 k)) (h : k < 0 ∨ (n : Int) < k) :
    Calls Tryz.prog 88 #[.slice (some ⟨b, off, none⟩) n c, .int .i64 i] w fun e w' => e = .returned (.int .i64 (-1)) ∧ w = w' := by
  have t0 : decide ((i : Int) < 0) = false := decide_eq_false (by omega)
  have t1 : decide ((n : Int) ≤ i) = false := decide_eq_false (by omega)
  have t2 : decide (n ≤ i) = false := decide_eq_false (by omega)
  by_cases h0 : k < 0
  · go_enter Tryz.func88, Tryz.ntmps88
    go_wp2
    go_ret
    exact ⟨rfl, rfl⟩
  · have h1 : (n : Int) < k := by omega
    clear h
    go_enter Tryz.func88, Tryz.ntmps88
    go_wp2
    go_ret
    exact ⟨rfl, rfl⟩
set_option maxHeartbeats 1000000 in
theorem ref_end_in (b off n c : Nat) (ks : List Int) (w : World) (hl : Hid (ks.length = n)) (hn : n ≤ 1000000) (hc : Hid (∀ m, m < n → w.cell? ⟨b, off + m * 4 + 3, none⟩ = some (.int .i64 (ks.getD m 0)))) :
    ∀ d i : Nat, i < n → n ≤ i + d → Calls Tryz.prog 88 #[.slice (some ⟨b, off, none⟩) n c, .int .i64 i] w fun e w' => e = .returned (.int .i64 (fin ks i 1)) ∧ w = w' := by
  intro d
  induction d with
  | zero => intro i h1 h2; omega
  | succ d ih =>
    intro i hi hid
    have hk := hc.out i hi
    by_cases hbad : ks.getD i 0 < 0 ∨ (n : Int) < ks.getD i 0
    · refine (ref_bad b off n c i _ w hi hk hbad).mono ?_
      rintro e w' ⟨rfl, rfl⟩
      refine ⟨?_, rfl⟩
      have : fin ks i 1 = -1 := by
        rcases hbad with h | h
        · exact fin_neg ks i 0 (by rw [hl.out]; exact hi) h
        · rw [fin_step ks i 0 (by rw [hl.out]; exact hi) (by omega)]
          exact fin_many _ _ _ (by rw [hl.out]; omega) (by rw [hl.out]; omega)
      rw [this]
    · obtain ⟨K, hK⟩ : ∃ K : Nat, ks.getD i 0 = K := ⟨(ks.getD i 0).toNat, by omega⟩
      rw [hK] at hk hbad
      have hcall : ∀ t : Nat, i < t → t ≤ n → Calls Tryz.prog 88 #[.slice (some ⟨b, off, none⟩) n c, .int .i64 t] w fun e w' => e = .returned (.int .i64 (fin ks t 1)) ∧ w = w' := by
        intro t h1 h2
        rcases Nat.lt_or_ge t n with h | h
        · exact ih t h (by omega)
        · have : fin ks t 1 = -1 := fin_out ks t 0 (by rw [hl.out]; exact h)
          rw [this]
          exact ref_out _ n c t w (.inr (by omega))
      have HCall := Lib.hid hcall
      have HF : Hid (fin ks i 1 = fin ks (i + 1) K) := Lib.hid (by
        have := fin_step ks i 0 (by rw [hl.out]; exact hi) (by rw [hK]; omega)
        rw [hK] at this
        simpa using this)
      have t0 : decide ((i : Int) < 0) = false := decide_eq_false (by omega)
      have t1 : decide ((n : Int) ≤ i) = false := decide_eq_false (by omega)
      have t2 : decide (n ≤ i) = false := decide_eq_false (by omega)
      have t3 : decide ((K : Int) < 0) = false := decide_eq_false (by omega)
      have t4 : decide ((n : Int) < (K : Int)) = false := decide_eq_false (by omega)
      have t5 : decide (n < K) = false := decide_eq_false (by omega)
      have hKn : K ≤ n := by omega
      clear ih hcall hK hbad
      go_enter Tryz.func88, Tryz.ntmps88
      go_wp2
      clear t0 t1 t2 t3 t4 t5
      go_loop [5, 6] (fun s q => ∃ j t : Nat, j ≤ K ∧ q = .int .i64 j ∧ s = .int .i64 t ∧ i < t ∧ t ≤ n ∧ fin ks t (K - j) = fin ks i 1) (fun _ q => K - (intOf q).toNat)
      case atStart => exact ⟨0, i + 1, Nat.zero_le _, rfl, by go_num, by omega, by omega, by rw [HF.out]; rfl⟩
      case round =>
        obtain ⟨j, t, hj, rfl, rfl, hit, htn, hf⟩ := hrel
        by_cases hlt : j < K
        · have hs := fin_succ ks t (K - (j + 1))
          rw [show K - (j + 1) + 1 = K - j by omega, hf] at hs
          have hle := fin_len ks t 1 (by rw [hl.out]; exact htn)
          have hge := fin_le ks t 1
          rw [hl.out] at hle
          obtain ⟨x, hx⟩ : ∃ x, x = fin ks t 1 := ⟨_, rfl⟩
          rw [← hx] at hs hle hge
          by_cases hx0 : x < 0
          · rw [if_pos hx0] at hs
            have HS := Lib.hid hs
            have HX := Lib.hid hx
            have t6 : decide (x < 0) = true := decide_eq_true hx0
            clear hs hx hf hge
            go_wp2_with ((go_at_call 88; refine (HCall.out t hit htn).mono ?_; rw [← HX.out]; rintro e w' ⟨rfl, rfl⟩))
            go_ret
            exact ⟨ret_int HS.out.symm, rfl⟩
          · rw [if_neg hx0] at hs
            obtain ⟨t', rfl⟩ : ∃ t' : Nat, x = t' := ⟨x.toNat, by omega⟩
            have h9 := hge (by omega)
            have HS := Lib.hid hs
            have HX := Lib.hid hx
            have t6 : decide ((t' : Int) < 0) = false := decide_eq_false hx0
            clear hs hx hf hge
            go_wp2_with ((go_at_call 88; refine (HCall.out t hit htn).mono ?_; rw [← HX.out]; rintro e w' ⟨rfl, rfl⟩))
            go_round
            case rel => exact ⟨j + 1, t', by omega, by go_num, rfl, by omega, by omega, by rw [HS.out, Int.toNat_natCast]⟩
            case measure => simp [intOf]; omega
        · obtain rfl : j = K := by omega
          rw [Nat.sub_self, fin_zero] at hf
          have HX := Lib.hid hf
          clear hf
          go_wp2
          go_ret
          exact ⟨ret_int HX.out, rfl⟩
theorem ref_end (v : Value) (ns : List Nd) (i : Int) (w : World) (h : NodesAt w v ns) (hn : ns.length ≤ 1000000) :
    Calls Tryz.prog 88 #[v, .int .i64 i] w fun e w' => e = .returned (.int .i64 (endI (kk ns) i)) ∧ w = w' := by
  obtain ⟨_, p, c, rfl, _, _, hp⟩ := h
  by_cases ho : i < 0 ∨ (ns.length : Int) ≤ i
  · have he := endI_out (kk ns) i (by rw [length_kk]; exact ho)
    rw [he]
    exact ref_out p _ c i w ho
  · obtain ⟨m, rfl⟩ : ∃ m : Nat, i = m := ⟨i.toNat, by omega⟩
    obtain ⟨b, off, rfl, _, hc⟩ := hp (by omega)
    rw [endI_nat]
    exact ref_end_in b off ns.length c (kk ns) w (length_kk ns) hn (fun j hj => hc.kids j hj) ns.length m (by omega) (by omega)
theorem ref_whole (v : Value) (ns : List Nd) (w : World) (h : NodesAt w v ns) (hn : ns.length ≤ 1000000) :
    Calls Tryz.prog 45 #[v] w fun e w' => e = .returned (.bool (wholeB (kk ns))) ∧ w = w' := by
  obtain ⟨p, c, hv⟩ : ∃ p c, v = .slice p ns.length c := by obtain ⟨_, p, c, hv, _⟩ := h; exact ⟨p, c, hv⟩
  subst hv
  by_cases h0 : ns = []
  · subst h0
    go_enter Tryz.func45, Tryz.ntmps45
    go_wp2
    go_ret
    exact ⟨ret_bool (by simp [kk, wholeB_nil]), rfl⟩
  · have hp : 0 < ns.length := List.length_pos_iff.2 h0
    have t0 : decide (0 < (ns.length : Int)) = true := decide_eq_true (by omega)
    have t1 : decide (0 < ns.length) = true := decide_eq_true (by omega)
    obtain ⟨n, hnn⟩ : ∃ n, n = ns.length := ⟨_, rfl⟩
    rw [← hnn] at h hp t0 t1 ⊢
    have HN := Lib.hid hnn
    clear hnn h0
    go_enter Tryz.func45, Tryz.ntmps45
    go_wp2_with ((go_at_call 88; refine (ref_end _ ns _ _ h hn).mono ?_; rintro e w' ⟨rfl, rfl⟩))
    go_ret
    exact ⟨ret_bool (by simp [wholeB, length_kk, HN.out]), rfl⟩
end Go.Proofs.YtncifeeinogcnaaGreatDoor
