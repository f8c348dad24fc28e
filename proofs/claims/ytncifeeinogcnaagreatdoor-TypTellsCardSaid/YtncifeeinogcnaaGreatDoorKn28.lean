/- Texts of this seat, one behind the other: TxE, TxF, KidsFn, Kids, Ref, RefKids. -/
import Derived.Test.YtncifeeinogcnaaGreatDoorKn27
import Derived.Laws.BytesArg
import Derived.Test.YtncifeeinogcnaaGreatDoorKn04
import Derived.Maps.AppendAt
import Derived.Test.YtncifeeinogcnaaGreatDoorKn05
/- Show: the contract. -/
set_option maxRecDepth 100000
namespace Go.Proofs.YtncifeeinogcnaaGreatDoor
open Go.Shelf Go.RowKit Go.Lib Go.Sort Go.Proofs.TreeMath

/-- A type is a tree whose nodes are as its form asks. -/
theorem ty_shape {ns : List Nd} (h : tyB ns = true) (hs : SmallN ns) : ∃ n k, ns = n :: k.flat ∧ okT (.cons n k .nil) ∧ (F.cons n k .nil).ok := by
  unfold tyB at h
  simp only [Bool.and_eq_true, decide_eq_true_eq] at h
  obtain ⟨⟨h1, h2⟩, h3⟩ := h
  obtain ⟨f, f1, f2, f3⟩ := doc_of ns h2
  cases f with
  | nil => simp [F.cnt] at f2
  | cons n k r =>
    have hr : r = .nil := by
      cases r with
      | nil => rfl
      | cons a b c => simp only [F.cnt] at f2; omega
    subst hr
    have e : n :: k.flat = ns := by rw [← f3]; simp [F.flat]
    exact ⟨n, k, e.symm, okT_of _ f1 (fun m hm => List.all_eq_true.1 h3 m (by rw [← f3]; exact hm)) (fun m hm => hs m (by rw [← f3]; exact hm)), f1⟩
def ShP (s : List UInt8) (c : Int) (w : World) (e : Ending) (w' : World) : Prop := e = .returned (.tuple #[.string ⟨s.toArray⟩, .int .i64 c]) ∧ Below w.heap.size w w'
theorem show_bad (tv : Value) (ns : List Nd) (w : World) (hns : NodesAt w tv ns) (hl : ns.length ≤ 1000000) (sm : SmallN ns) (hb : tyB ns = false) : Calls Tryz.prog 11 #[tv] w (ShP [] 90 w) := by
  have CK := Lib.hid (check_any tv ns w hns hl sm)
  unfold CkP at CK
  rw [hb] at CK
  have E : Hid (∀ w', Below w.heap.size w w' → ShP [] 90 w (.returned (.tuple #[.string ⟨#[]⟩, .int .i64 90])) w') := Lib.hid fun w' h => ⟨rfl, h⟩
  generalize ShP [] 90 w = Z at *
  clear hns hl sm hb
  go_enter Tryz.func11, Tryz.ntmps11
  go_wp2_with fail
  refine CK.out.mono ?_
  rintro e w1 ⟨rfl, b1⟩
  have B1 := Lib.hid b1
  clear b1 CK
  go_wp2
  first | go_ret2 | skip
  exact E.out _ B1.out
set_option maxHeartbeats 1000000 in
theorem show_good (tv : Value) (n : Nd) (k : F) (w : World) (hns : NodesAt w tv (n :: k.flat)) (sm : SmallN (n :: k.flat)) (hb : tyB (n :: k.flat) = true) (ht : okT (.cons n k .nil)) (htab : TabW w) : Calls Tryz.prog 11 #[tv] w (ShP (shN n (shF k)) 0 w) := by
  have h4 : (n :: k.flat).length ≤ 4000 := by
    unfold tyB at hb
    simp only [Bool.and_eq_true, decide_eq_true_eq] at hb
    exact hb.1.1
  have CK := Lib.hid (check_any tv (n :: k.flat) w hns (by omega) sm)
  unfold CkP at CK
  rw [hb] at CK
  have GOOD := Lib.hid (fun b => (all_good w b tv (n :: k.flat) hns h4 htab (.cons n k .nil) ht).1 [] [] [] )
  have E : Hid (∀ w', Below w.heap.size w w' → ShP (shN n (shF k)) 0 w (.returned (.tuple #[.string ⟨(shN n (shF k)).toArray⟩, .int .i64 0])) w') := Lib.hid fun w' h => ⟨rfl, h⟩
  generalize ShP (shN n (shF k)) 0 w = Z at *
  have hsz : 1 + k.sz ≤ 4000 := by rw [List.length_cons, F.flat_length] at h4; omega
  have BND := Lib.hid hsz
  have START : Hid (∀ w1, Below w.heap.size w w1 → TS w w1.heap.size [] (w1.alloc (.cells #[.pointer none, .slice none 0 0] 70))) := Lib.hid fun w1 b1 => ⟨b1.alloc b1.size _, .inl ⟨b1.size, .slice none 0 0, heap_alloc_new w1 _, World.ownsRowF_nil _ _ _ _, by simp [Value.ownBlock]⟩⟩
  obtain ⟨q, c, rfl⟩ : ∃ q c, tv = .slice q (n :: k.flat).length c := by obtain ⟨_, q, c, e, _⟩ := hns; exact ⟨q, c, e⟩
  obtain ⟨M, hM⟩ : ∃ M, M = (n :: k.flat).length := ⟨_, rfl⟩
  rw [← hM] at CK GOOD ⊢
  clear hM hns sm hb ht htab h4 hsz
  go_enter Tryz.func11, Tryz.ntmps11
  go_wp2_with fail
  refine CK.out.mono ?_
  rintro e w1 ⟨rfl, b1⟩
  have T1 := Lib.hid (START.out w1 b1)
  have G1 := Lib.hid (GOOD.out w1.heap.size _ (by simp) (by have := BND.out; simp only [List.length_nil]; omega) T1.out)
  rw [List.nil_append] at G1
  clear b1 CK START GOOD T1
  go_wp2_with fail
  refine G1.out.mono ?_
  rintro e w2 ⟨rfl, h2⟩
  have ST := Lib.hid (string_any w.heap.size w1.heap.size _ w2 h2.bld h2.bel.size)
  have B2 := Lib.hid h2.bel
  clear h2 G1
  go_wp2_with fail
  refine ST.out.mono ?_
  rintro e w3 ⟨rfl, _, b3, _⟩
  have E3 := Lib.hid (E.out _ (B2.out.trans b3))
  clear b3 ST
  go_wp2
  first | go_ret2 | skip
  exact E3.out
end Go.Proofs.YtncifeeinogcnaaGreatDoor
/- The document's own Show: digits, brackets. -/
set_option maxRecDepth 100000
namespace Go.Proofs.YtncifeeinogcnaaGreatDoor
open Go.Shelf Go.RowKit Go.Lib Go.Sort Go.Proofs.TreeMath

theorem conv1 (W : World) (v : Int) : (convert 68 9 (.slice (some ⟨W.heap.size, 0, none⟩) 1 1)).run Tryz.prog (W.alloc (.cells #[.int .u8 v] 5)) = .ok (.string (strOfNums [v])) (W.alloc (.cells #[.int .u8 v] 5)) :=
  run_convert_bytes_arg _ 68 5 Tryz.underlying68 Tryz.underlying5 W.heap.size 0 1 1 [v] rfl (fun i hi => by
    obtain rfl : i = 0 := by omega
    have h := heap_alloc_new W (.cells #[.int .u8 v] 5)
    unfold World.cell?
    rw [h]
    rfl) 9 Tryz.underlying9
def RSt (l : List UInt8) (w : World) (e : Ending) (w' : World) : Prop := e = .returned (.string ⟨l.toArray⟩) ∧ Below w.heap.size w w'
theorem RSt.is {l : List UInt8} {s : ByteArray} {w w' : World} (h : s.data.toList = l) (b : Below w.heap.size w w') : RSt l w (.returned (.string s)) w' := ⟨by rw [← h], b⟩
theorem dig_byte (u : Nat) : (strOfNums [48 + (u : Int)]).data.toList = [UInt8.ofNat (48 + u)] := by
  rw [strOfNums_data]
  show [UInt8.ofNat (48 + (u : Int)).toNat] = _
  rw [show (48 + (u : Int)).toNat = 48 + u by omega]
theorem rdig_small (u : Nat) (hu2 : u < 10) (w : World) : Calls Tryz.prog 52 #[.int .i64 (u : Int)] w (RSt (Lib.decDigits u) w) := by
  have t1 : decide ((10 : Int) ≤ (u : Int)) = false := by simp; omega
  have hm : (u : Int).tmod 10 = u := by rw [Int.tmod_eq_emod_of_nonneg (by omega)]; omega
  have hcv := conv1 w (48 + u)
  have E : Hid (∀ w', Below w.heap.size w w' → RSt (Lib.decDigits u) w (.returned (.string (strOfNums [48 + (u : Int)]))) w') := Lib.hid fun w' b => RSt.is (by rw [Lib.decDigits, dif_pos hu2, dig_byte]) b
  have BA : Hid (Below w.heap.size w (w.alloc (.cells #[.int .u8 (48 + u)] 5))) := Lib.hid ((Below.refl _ _).alloc (Nat.le_refl _) _)
  generalize RSt (Lib.decDigits u) w = Z at *
  go_enter Tryz.func52, Tryz.ntmps52
  go_wp2
  first | go_ret | skip
  exact E.out _ BA.out
theorem rdig_any : ∀ (f u : Nat), u < 10 ^ (f + 1) → f ≤ 10 → ∀ w, Calls Tryz.prog 52 #[.int .i64 (u : Int)] w (RSt (Lib.decDigits u) w) := by
  intro f
  induction f with
  | zero => intro u hu _ w; exact rdig_small u (by simpa using hu) w
  | succ f ih =>
    intro u hu hf w
    by_cases hu2 : u < 10
    · exact rdig_small u hu2 w
    · have t1 : decide ((10 : Int) ≤ (u : Int)) = true := by simp; omega
      have hd9 : u / 10 < 10 ^ (f + 1) := by rw [Nat.div_lt_iff_lt_mul (by decide)]; rw [Nat.pow_succ] at hu; exact hu
      have hm : (u : Int).tmod 10 = ((u % 10 : Nat) : Int) := by rw [Int.tmod_eq_emod_of_nonneg (by omega)]; omega
      have hq : (u : Int).tdiv 10 = ((u / 10 : Nat) : Int) := by rw [Int.tdiv_eq_ediv_of_nonneg (by omega)]; omega
      obtain ⟨r, hr⟩ : ∃ r, r = u % 10 := ⟨_, rfl⟩
      obtain ⟨d, hd⟩ : ∃ d, d = u / 10 := ⟨_, rfl⟩
      rw [← hr] at hm
      rw [← hd] at hq hd9
      have hr9 : r < 10 := by omega
      have hd8 : d ≤ 1000000000000 := by
        have : (10 : Nat) ^ (f + 1) ≤ 10 ^ 11 := Nat.pow_le_pow_right (by decide) (by omega)
        omega
      have hcv := conv1 w (48 + r)
      have CALL := Lib.hid (ih d hd9 (by omega))
      have hS1 : (strOfNums [48 + (r : Int)]).size ≤ 1 := by rw [strOfNums_size]; simp
      obtain ⟨S2, hS2⟩ : ∃ S2 : ByteArray, S2 = ⟨(Lib.decDigits d).toArray⟩ := ⟨_, rfl⟩
      have hl2 : S2.size ≤ 12 := by
        rw [hS2]
        have := decDigits_len f d hd9
        show (Lib.decDigits d).toArray.size ≤ 12
        simp; omega
      have E : Hid (∀ w', Below w.heap.size w w' → RSt (Lib.decDigits u) w (.returned (.string (S2 ++ strOfNums [48 + (r : Int)]))) w') := Lib.hid fun w' b => RSt.is (by
        rw [Lib.decDigits, dif_neg hu2, ByteArray.data_append, Array.toList_append, dig_byte, hS2, ← hd, ← hr]) b
      have BA : Hid (Below w.heap.size w (w.alloc (.cells #[.int .u8 (48 + r)] 5))) := Lib.hid ((Below.refl _ _).alloc (Nat.le_refl _) _)
      unfold RSt at CALL
      rw [← hS2] at CALL
      have hSc : ¬ (9223372036854775807 : Int) < (S2.size : Int) + ((strOfNums [48 + (r : Int)]).size : Int) := by omega
      generalize RSt (Lib.decDigits u) w = Z at *
      clear hu hf ih hu2 hr hd hd9 hS2
      go_enter Tryz.func52, Tryz.ntmps52
      go_wp2_with fail
      refine (CALL.out _).mono ?_
      rintro e w1 ⟨rfl, b1⟩
      have B1 := Lib.hid (BA.out.trans (b1.mono BA.out.size))
      clear b1 CALL
      go_wp2
      first | go_ret | skip
      exact E.out _ B1.out
theorem rbrk_any (s : ByteArray) (y : Bool) (w : World) (hs : s.size ≤ 9000000000000000000) : Calls Tryz.prog 54 #[.string s, .bool y] w (RSt (brk y s.data.toList) w) := by
  have h1 : ¬ (9223372036854775807 : Int) < 1 + (s.size : Int) := by omega
  have h2 : ¬ (9223372036854775807 : Int) < 1 + (s.size : Int) + 1 := by omega
  cases y with
  | false =>
    have E : Hid (RSt (brk false s.data.toList) w (.returned (.string s)) w) := Lib.hid (RSt.is (by simp [brk]) (Below.refl _ _))
    generalize RSt (brk false s.data.toList) w = Z at *
    go_enter Tryz.func54, Tryz.ntmps54
    go_wp2
    first | go_ret | skip
    exact E.out
  | true =>
    have hz : (((⟨#[40]⟩ : ByteArray) ++ s).size : Int) = 1 + (s.size : Int) := by rw [ByteArray.size_append]; show ((1 + s.size : Nat) : Int) = _; omega
    have E : Hid (RSt (brk true s.data.toList) w (.returned (.string ((⟨#[40]⟩ : ByteArray) ++ s ++ ⟨#[41]⟩))) w) := Lib.hid (RSt.is (by simp [brk]) (Below.refl _ _))
    generalize RSt (brk true s.data.toList) w = Z at *
    go_enter Tryz.func54, Tryz.ntmps54
    go_wp2
    first | go_ret | skip
    exact E.out
end Go.Proofs.YtncifeeinogcnaaGreatDoor
/- The indexes of the kids: tree.Kids. -/
namespace Go.Proofs.YtncifeeinogcnaaGreatDoor
open Go.RowKit Go.Proofs.TreeMath
theorem info_of {P : Program} {t : TypeId} {z : Value} {s b : Nat} (h : (P.info? t).map (fun i => (i.zero, i.size, i.bytes)) = some (some z, s, b)) : ∃ i, P.info? t = some i ∧ i.zero = some z ∧ i.size = s ∧ i.bytes = b := by
  cases hq : P.info? t with
  | none => rw [hq] at h; simp at h
  | some i => rw [hq] at h; simp at h; exact ⟨i, rfl, h.1, h.2.1, h.2.2⟩
theorem infoInt : ∃ i, Tryz.prog.info? 3 = some i ∧ i.zero = some (.int .i64 0) ∧ i.size = 1 ∧ i.bytes = 8 := info_of (by kernel_rfl)
theorem owns_slice {w : World} {base : Nat} {e : TypeId} {size n : Nat} {v : Value} {xs : List Value} (h : w.ownsRow base e size v n xs) (hn : 0 < n) : ∃ g cap, v = .slice (some ⟨g, 0, none⟩) n cap ∧ base ≤ g ∧ g < w.heap.size := by
  rcases h.2 with ⟨_, h0⟩ | ⟨g, cap, cur, rfl, hb, hg, _⟩
  · omega
  · exact ⟨g, cap, rfl, hb, (Array.getElem?_eq_some_iff.1 hg).1⟩
end Go.Proofs.YtncifeeinogcnaaGreatDoor
/- tree.Kids: the search with the function that gathers the kids. -/
namespace Go.Proofs.YtncifeeinogcnaaGreatDoor
open Go.RowKit Go.Proofs.TreeMath
def ofNats (xs : List Nat) : List Int := xs.map Int.ofNat
/-- What stands while the kids of the node at t are gathered: W the world at the call; the block of the list at H, of the index at H + 1, of the kids at H + 2. -/
structure KMem (W : World) (b off n c t : Nat) (outs : List Nat) (w : World) : Prop where
  below : Below W.heap.size W w
  blkB : w.heap[W.heap.size]? = some (.cells #[.slice (some ⟨b, off, none⟩) n c] 22 (0, 0))
  blkA : w.heap[W.heap.size + 1]? = some (.cells #[.int .i64 t] 3 (0, 0))
  kids : ∃ p cap, w.heap[W.heap.size + 1 + 1]? = some (.cells #[.slice p outs.length cap] 30 (0, 0)) ∧ w.ownsRow (W.heap.size + 3) 3 1 (.slice p outs.length cap) outs.length (intCells (ofNats outs))
  size : W.heap.size + 3 ≤ w.heap.size
theorem KMem.drew {W : World} {b off n c t : Nat} {outs : List Nat} {w : World} (h : KMem W b off n c t outs w) : KMem W b off n c t outs w.drew := by
  obtain ⟨h1, h2, h3, h4, h5⟩ := h
  exact ⟨h1.drew, h2, h3, h4, h5⟩
theorem alloc_at (w : World) (o : Obj) : (w.alloc o).heap[w.heap.size]? = some o := by
  show (w.heap.push o)[w.heap.size]? = some o
  simp
def KRet (W : World) (xs : List Int) (e : Ending) (w' : World) : Prop := ∃ v', e = .returned v' ∧ IntsAt w' v' xs ∧ Below W.heap.size W w'
end Go.Proofs.YtncifeeinogcnaaGreatDoor
/- The document's own answers: End, Whole, Kids, Sub, Make. -/
set_option maxRecDepth 100000
namespace Go.Proofs.YtncifeeinogcnaaGreatDoor
open Go.RowKit Go.Proofs.TreeMath
theorem ref_out (p : Option Addr) (n c : Nat) (i : Int) (w : World) (h : i < 0 ∨ (n : Int) ≤ i) :
    Calls Tryz.prog 88 #[.slice p n c, .int .i64 i] w fun e w' => e = .returned (.int .i64 (-1)) ∧ w = w' := by
  by_cases h0 : i < 0
  · go_enter Tryz.func88, Tryz.ntmps88
    go_wp2
    go_ret
    exact ⟨rfl, rfl⟩
  · have h1 : (n : Int) ≤ i := by omega
    clear h
    go_enter Tryz.func88, Tryz.ntmps88
    go_wp2
    go_ret
    exact ⟨rfl, rfl⟩
theorem ref_bad (b off n c i : Nat) (k : Int) (w : World) (hi : i < n) (hk : w.cell? ⟨b, off + i * 4 + 3, none⟩ = some (.int .i64 k)) (h : k < 0 ∨ (n : Int) < k) :
    Calls Tryz.prog 88 #[.slice (some ⟨b, off, none⟩) n c, .int .i64 i] w fun e w' => e = .returned (.int .i64 (-1)) ∧ w = w' := by
  have t0 : decide ((i : Int) < 0) = false := decide_eq_false (by omega)
  have t1 : decide ((n : Int) ≤ i) = false := decide_eq_false (by omega)
  have t2 : decide (n ≤ i) = false := decide_eq_false (by omega)
  by_cases h0 : k < 0
  · go_enter Tryz.func88, Tryz.ntmps88
    go_wp2
    go_ret
    exact ⟨rfl, rfl⟩
  · have h1 : (n : Int) < k := by omega
    clear h
    go_enter Tryz.func88, Tryz.ntmps88
    go_wp2
    go_ret
    exact ⟨rfl, rfl⟩
set_option maxHeartbeats 1000000 in
theorem ref_end_in (b off n c : Nat) (ks : List Int) (w : World) (hl : Hid (ks.length = n)) (hn : n ≤ 1000000) (hc : Hid (∀ m, m < n → w.cell? ⟨b, off + m * 4 + 3, none⟩ = some (.int .i64 (ks.getD m 0)))) :
    ∀ d i : Nat, i < n → n ≤ i + d → Calls Tryz.prog 88 #[.slice (some ⟨b, off, none⟩) n c, .int .i64 i] w fun e w' => e = .returned (.int .i64 (fin ks i 1)) ∧ w = w' := by
  intro d
  induction d with
  | zero => intro i h1 h2; omega
  | succ d ih =>
    intro i hi hid
    have hk := hc.out i hi
    by_cases hbad : ks.getD i 0 < 0 ∨ (n : Int) < ks.getD i 0
    · refine (ref_bad b off n c i _ w hi hk hbad).mono ?_
      rintro e w' ⟨rfl, rfl⟩
      refine ⟨?_, rfl⟩
      have : fin ks i 1 = -1 := by
        rcases hbad with h | h
        · exact fin_neg ks i 0 (by rw [hl.out]; exact hi) h
        · rw [fin_step ks i 0 (by rw [hl.out]; exact hi) (by omega)]
          exact fin_many _ _ _ (by rw [hl.out]; omega) (by rw [hl.out]; omega)
      rw [this]
    · obtain ⟨K, hK⟩ : ∃ K : Nat, ks.getD i 0 = K := ⟨(ks.getD i 0).toNat, by omega⟩
      rw [hK] at hk hbad
      have hcall : ∀ t : Nat, i < t → t ≤ n → Calls Tryz.prog 88 #[.slice (some ⟨b, off, none⟩) n c, .int .i64 t] w fun e w' => e = .returned (.int .i64 (fin ks t 1)) ∧ w = w' := by
        intro t h1 h2
        rcases Nat.lt_or_ge t n with h | h
        · exact ih t h (by omega)
        · have : fin ks t 1 = -1 := fin_out ks t 0 (by rw [hl.out]; exact h)
          rw [this]
          exact ref_out _ n c t w (.inr (by omega))
      have HCall := Lib.hid hcall
      have HF : Hid (fin ks i 1 = fin ks (i + 1) K) := Lib.hid (by
        have := fin_step ks i 0 (by rw [hl.out]; exact hi) (by rw [hK]; omega)
        rw [hK] at this
        simpa using this)
      have t0 : decide ((i : Int) < 0) = false := decide_eq_false (by omega)
      have t1 : decide ((n : Int) ≤ i) = false := decide_eq_false (by omega)
      have t2 : decide (n ≤ i) = false := decide_eq_false (by omega)
      have t3 : decide ((K : Int) < 0) = false := decide_eq_false (by omega)
      have t4 : decide ((n : Int) < (K : Int)) = false := decide_eq_false (by omega)
      have t5 : decide (n < K) = false := decide_eq_false (by omega)
      have hKn : K ≤ n := by omega
      clear ih hcall hK hbad
      go_enter Tryz.func88, Tryz.ntmps88
      go_wp2
      clear t0 t1 t2 t3 t4 t5
      go_loop [5, 6] (fun s q => ∃ j t : Nat, j ≤ K ∧ q = .int .i64 j ∧ s = .int .i64 t ∧ i < t ∧ t ≤ n ∧ fin ks t (K - j) = fin ks i 1) (fun _ q => K - (intOf q).toNat)
      case atStart => exact ⟨0, i + 1, Nat.zero_le _, rfl, by go_num, by omega, by omega, by rw [HF.out]; rfl⟩
      case round =>
        obtain ⟨j, t, hj, rfl, rfl, hit, htn, hf⟩ := hrel
        by_cases hlt : j < K
        · have hs := fin_succ ks t (K - (j + 1))
          rw [show K - (j + 1) + 1 = K - j by omega, hf] at hs
          have hle := fin_len ks t 1 (by rw [hl.out]; exact htn)
          have hge := fin_le ks t 1
          rw [hl.out] at hle
          obtain ⟨x, hx⟩ : ∃ x, x = fin ks t 1 := ⟨_, rfl⟩
          rw [← hx] at hs hle hge
          by_cases hx0 : x < 0
          · rw [if_pos hx0] at hs
            have HS := Lib.hid hs
            have HX := Lib.hid hx
            have t6 : decide (x < 0) = true := decide_eq_true hx0
            clear hs hx hf hge
            go_wp2_with ((go_at_call 88; refine (HCall.out t hit htn).mono ?_; rw [← HX.out]; rintro e w' ⟨rfl, rfl⟩))
            go_ret
            exact ⟨ret_int HS.out.symm, rfl⟩
          · rw [if_neg hx0] at hs
            obtain ⟨t', rfl⟩ : ∃ t' : Nat, x = t' := ⟨x.toNat, by omega⟩
            have h9 := hge (by omega)
            have HS := Lib.hid hs
            have HX := Lib.hid hx
            have t6 : decide ((t' : Int) < 0) = false := decide_eq_false hx0
            clear hs hx hf hge
            go_wp2_with ((go_at_call 88; refine (HCall.out t hit htn).mono ?_; rw [← HX.out]; rintro e w' ⟨rfl, rfl⟩))
            go_round
            case rel => exact ⟨j + 1, t', by omega, by go_num, rfl, by omega, by omega, by rw [HS.out, Int.toNat_natCast]⟩
            case measure => simp [intOf]; omega
        · obtain rfl : j = K := by omega
          rw [Nat.sub_self, fin_zero] at hf
          have HX := Lib.hid hf
          clear hf
          go_wp2
          go_ret
          exact ⟨ret_int HX.out, rfl⟩
theorem ref_end (v : Value) (ns : List Nd) (i : Int) (w : World) (h : NodesAt w v ns) (hn : ns.length ≤ 1000000) :
    Calls Tryz.prog 88 #[v, .int .i64 i] w fun e w' => e = .returned (.int .i64 (endI (kk ns) i)) ∧ w = w' := by
  obtain ⟨_, p, c, rfl, _, _, hp⟩ := h
  by_cases ho : i < 0 ∨ (ns.length : Int) ≤ i
  · have he := endI_out (kk ns) i (by rw [length_kk]; exact ho)
    rw [he]
    exact ref_out p _ c i w ho
  · obtain ⟨m, rfl⟩ : ∃ m : Nat, i = m := ⟨i.toNat, by omega⟩
    obtain ⟨b, off, rfl, _, hc⟩ := hp (by omega)
    rw [endI_nat]
    exact ref_end_in b off ns.length c (kk ns) w (length_kk ns) hn (fun j hj => hc.kids j hj) ns.length m (by omega) (by omega)
theorem ref_whole (v : Value) (ns : List Nd) (w : World) (h : NodesAt w v ns) (hn : ns.length ≤ 1000000) :
    Calls Tryz.prog 45 #[v] w fun e w' => e = .returned (.bool (wholeB (kk ns))) ∧ w = w' := by
  obtain ⟨p, c, hv⟩ : ∃ p c, v = .slice p ns.length c := by obtain ⟨_, p, c, hv, _⟩ := h; exact ⟨p, c, hv⟩
  subst hv
  by_cases h0 : ns = []
  · subst h0
    go_enter Tryz.func45, Tryz.ntmps45
    go_wp2
    go_ret
    exact ⟨ret_bool (by simp [kk, wholeB_nil]), rfl⟩
  · have hp : 0 < ns.length := List.length_pos_iff.2 h0
    have t0 : decide (0 < (ns.length : Int)) = true := decide_eq_true (by omega)
    have t1 : decide (0 < ns.length) = true := decide_eq_true (by omega)
    obtain ⟨n, hnn⟩ : ∃ n, n = ns.length := ⟨_, rfl⟩
    rw [← hnn] at h hp t0 t1 ⊢
    have HN := Lib.hid hnn
    clear hnn h0
    go_enter Tryz.func45, Tryz.ntmps45
    go_wp2_with ((go_at_call 88; refine (ref_end _ ns _ _ h hn).mono ?_; rintro e w' ⟨rfl, rfl⟩))
    go_ret
    exact ⟨ret_bool (by simp [wholeB, length_kk, HN.out]), rfl⟩
end Go.Proofs.YtncifeeinogcnaaGreatDoor
/- The document's own answers: Kids, Sub, Make. -/
set_option maxRecDepth 100000
namespace Go.Proofs.YtncifeeinogcnaaGreatDoor
open Go.RowKit Go.Proofs.TreeMath
theorem ref_kids_not (v : Value) (ns : List Nd) (i : Int) (w : World) (h : NodesAt w v ns) (hn : ns.length ≤ 1000000) (hE : endI (kk ns) i < 0) :
    Calls Tryz.prog 53 #[v, .int .i64 i] w (KRet w []) := by
  obtain ⟨p, c, hv⟩ : ∃ p c, v = .slice p ns.length c := by obtain ⟨_, p, c, hv, _⟩ := h; exact ⟨p, c, hv⟩
  subst hv
  have hd := decide_eq_true hE
  clear hE
  go_enter Tryz.func53, Tryz.ntmps53
  go_wp2_with ((go_at_call 88; refine (ref_end _ ns _ _ (h.below ((Below.refl _ _).alloc (Nat.le_refl _) _)) hn).mono ?_; rintro e w' ⟨rfl, rfl⟩))
  go_ret
  exact ⟨_, rfl, ⟨rfl, _, _, rfl, Nat.le_refl _, by unfold maxLen; omega, fun h => absurd rfl h⟩, (Below.refl _ _).alloc (Nat.le_refl _) _⟩
set_option maxHeartbeats 1000000 in
theorem ref_kids_in (b off n c i K : Nat) (ns : List Nd) (w : World) (h : NodesAt w (.slice (some ⟨b, off, none⟩) n c) ns) (hl : Hid (ns.length = n)) (hn : n ≤ 1000000) (hb : b < w.heap.size) (hc : Hid (CellsIn w b off (nodeCells ns))) (hi : i < n) (hE : Hid (0 ≤ fin (kk ns) i 1)) (hK : Hid ((kk ns).getD i 0 = K)) :
    Calls Tryz.prog 53 #[.slice (some ⟨b, off, none⟩) n c, .int .i64 i] w (KRet w (ofNats (kidsI (kk ns) i))) := by
  obtain ⟨i0, hi1, hz0, hz1, hz2⟩ := infoInt
  have HI := Lib.hid (And.intro hi1 (And.intro hz0 (And.intro hz1 hz2)))
  clear hi1 hz0 hz1 hz2
  have hkc := hc.out.kids i (by rw [hl.out]; exact hi)
  rw [hK.out] at hkc
  have hKn : K + i + 1 ≤ n := by
    have := kid_few (kk ns) i hE.out
    rw [hK.out, length_kk, hl.out] at this
    simpa using this
  have HF : Hid (0 ≤ fin (kk ns) (i + 1) K) := Lib.hid (by
    have := fin_kids (kk ns) i hE.out
    rw [hK.out, Int.toNat_natCast] at this
    rw [← this]
    exact hE.out)
  have t0 : decide (fin (kk ns) i 1 < 0) = false := decide_eq_false (by have := hE.out; omega)
  go_enter Tryz.func53, Tryz.ntmps53
  go_wp2_with fail
  refine (ref_end _ ns _ _ (h.below ((Below.refl _ _).alloc (Nat.le_refl _) _)) (by rw [hl.out]; exact hn)).mono ?_
  rintro e w' ⟨rfl, rfl⟩
  rw [endI_nat]
  obtain ⟨E, hEE⟩ : ∃ E, E = fin (kk ns) i 1 := ⟨_, rfl⟩
  rw [← hEE] at t0 ⊢
  clear hEE
  go_wp2_with fail
  go_loopw [5, 6, 7] (fun o s q wr => ∃ (j t m : Nat) (outs : List Nat) (p : Option Addr) (cap : Nat), j ≤ K ∧ q = .int .i64 j ∧ s = .int .i64 t ∧ t ≤ n ∧ o = .slice p m cap ∧ m = outs.length ∧ m = j ∧ wr.ownsRow w.heap.size 3 1 (.slice p m cap) m (intCells (ofNats outs)) ∧ Below w.heap.size w wr ∧ 0 ≤ fin (kk ns) t (K - j) ∧ outs ++ starts (kk ns) t (K - j) = starts (kk ns) (i + 1) K) (fun _ _ q _ => K - (intOf q).toNat)
  case atStart => exact ⟨0, i + 1, 0, [], some ⟨w.heap.size, 0, none⟩, 0, Nat.zero_le _, rfl, by go_num, by omega, rfl, rfl, rfl, World.ownsRow_made w #[] 0 (Nat.le_refl _) (Nat.zero_le _) rfl, (Below.refl _ _).alloc (Nat.le_refl _) _, HF.out, rfl⟩
  case round =>
    obtain ⟨j, t, m, outs, p, cap, hj, rfl, rfl, htn, rfl, hm, rfl, hown, hbel, hf, hs⟩ := hrel
    have hck := (hbel.cell (p := ⟨b, off + i * 4 + 3, none⟩) hb).trans hkc
    have HO := Lib.hid hown
    have HM := Lib.hid hm
    have hsz := hbel.size
    clear hown hm
    by_cases hlt : m < K
    · obtain ⟨r, hr⟩ : ∃ r, K - m = r + 1 := ⟨K - m - 1, by omega⟩
      rw [hr] at hf hs
      obtain ⟨hf1, hf2⟩ := fin_first (kk ns) t r hf
      have hle := fin_len (kk ns) t 1 (by rw [length_kk, hl.out]; exact htn)
      rw [length_kk, hl.out] at hle
      obtain ⟨t', ht'⟩ : ∃ t' : Nat, fin (kk ns) t 1 = t' := ⟨(fin (kk ns) t 1).toNat, by omega⟩
      rw [ht'] at hf2 hle
      rw [Int.toNat_natCast] at hf2
      rw [hf2] at hf
      rw [starts_succ, ht', Int.toNat_natCast] at hs
      have HS := Lib.hid hs
      have HF2 := Lib.hid hf
      have HR : Hid (K - (m + 1) = r) := Lib.hid (by omega)
      have HT := Lib.hid ht'
      clear hs hf hf1 hf2 hr ht'
      go_wp2_with (first
        | (at_builtin; refine wpList_append_own _ rfl _ _ 30 rfl w.heap.size 3 i0 (.int .i64 0) 1 8 Tryz.underlying30 HI.out.1 HI.out.2.1 HI.out.2.2.1 HI.out.2.2.2 rfl (by decide) (.slice p m cap) m (intCells (ofNats outs)) rfl (HO.out.alloc _) ⟨wr.heap.size, 0, none⟩ 1 1 [.int .i64 t] rfl rfl (cell_one_new _ _ _) (fun x hx => by simp at hx; subst hx; rfl) (by unfold maxLen; omega) (by omega) (by simp; omega) ?_; intro v' w3 hown' hgrow hnil; obtain ⟨g3, c3, hv3, hg3, hg4⟩ := owns_slice hown' (by omega); subst hv3; have HO3 := Lib.hid hown'; have hbel3 : Below w.heap.size w w3 := (hbel.alloc hsz _).grown hgrow (by simp; omega) (fun q hq => (HO.out.lt q hq).1); clear hown' hgrow hnil)
        | (go_at_call 88; refine (ref_end _ ns _ _ (h.below hbel3) (by rw [hl.out]; exact hn)).mono ?_; rw [endI_nat, HT.out]; rintro e w' ⟨rfl, rfl⟩))
      go_roundw
      case rel => exact ⟨m + 1, t', m + 1, outs ++ [t], _, _, by omega, by go_num, rfl, by omega, rfl, by rw [List.length_append, HM.out]; rfl, rfl, by have := HO3.out; simpa [intCells, ofNats] using this, hbel3, by rw [HR.out]; exact HF2.out, by rw [HR.out, ← HS.out]; simp⟩
      case measure => simp [intOf]; omega
    · obtain rfl : m = K := by omega
      have HS := Lib.hid hs
      clear hs hf
      go_wp2
      go_ret
      refine ⟨_, rfl, ?_, hbel⟩
      have e : kidsI (kk ns) i = outs := by
        have := HS.out
        rw [Nat.sub_self] at this
        unfold kidsI
        rw [endI_nat, if_neg (by have := hE.out; omega), Int.toNat_natCast, hK.out, Int.toNat_natCast, ← this]
        simp [starts]
      rw [e]
      have := SliceAt.of_owns HO.out
      rw [HM.out] at this
      simpa [IntsAt, ofNats, HM.out] using this
theorem ref_kids (v : Value) (ns : List Nd) (i : Int) (w : World) (h : NodesAt w v ns) (hn : ns.length ≤ 1000000) : Calls Tryz.prog 53 #[v, .int .i64 i] w (KRet w (ofNats (kidsI (kk ns) i))) := by
  by_cases hE : endI (kk ns) i < 0
  · have : kidsI (kk ns) i = [] := by unfold kidsI; rw [if_pos hE]
    rw [this]
    exact ref_kids_not v ns i w h hn hE
  · rcases endI_range (kk ns) i with h0 | ⟨h1, h2, h3⟩
    · omega
    · rw [length_kk] at h3
      obtain ⟨m, rfl⟩ : ∃ m : Nat, i = m := ⟨i.toNat, by omega⟩
      obtain ⟨b, off, c, rfl, _, _, hb, hc⟩ := nodes_slice h (by omega)
      rw [endI_nat] at hE
      have hk := kid_nonneg (kk ns) m (by omega)
      exact ref_kids_in b off ns.length c m ((kk ns).getD m 0).toNat ns w h rfl hn hb hc (by omega) (Lib.hid (by omega)) (Lib.hid (by omega))
end Go.Proofs.YtncifeeinogcnaaGreatDoor
