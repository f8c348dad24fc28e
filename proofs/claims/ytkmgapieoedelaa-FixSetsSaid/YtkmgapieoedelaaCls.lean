/- Classes of characters: function values that tell whether a character is one of those that are meant. -/
import Derived.Test.YtkmgapieoedelaaViews
import Derived.Test.YtkmgapieoedelaaSlot
import Derived.Test.YtkmgapieoedelaaRead
import Derived.Lib.Hide
import Derived.Lib.OthersKept
namespace Go.Proofs.Ytkmgapieoedelaa
open Go.RowKit Go.Proofs.LexMath

theorem ret_bool {a b : Bool} (h : a = b) : Ending.returned (.bool a) = .returned (.bool b) := by rw [h]
/-- A function value that tells of a character whether it is one of those that are meant. -/
def Cls (w : World) (v : Value) (p : Int → Bool) : Prop :=
  ∃ f caps, v = .func (.func f) #[] caps ∧ (∀ vs W, (callFunc f vs).run Try.prog W = .ok (.enter f vs) W) ∧
    ∀ r W, Below w.heap.size w W → Calls Try.prog f (#[.int .i32 r] ++ caps) W fun e W' => e = .returned (.bool (p r)) ∧ Below W.heap.size W W'
theorem Cls.below {w w' : World} {v : Value} {p : Int → Bool} (h : Cls w v p) (b : Below w.heap.size w w') : Cls w' v p := by
  obtain ⟨f, caps, rfl, hf, hc⟩ := h
  exact ⟨f, caps, rfl, hf, fun r W hW => hc r W (b.trans (hW.mono b.size))⟩
theorem Cls.congr {w : World} {v : Value} {p q : Int → Bool} (h : Cls w v p) (e : ∀ r, p r = q r) : Cls w v q := (funext e : p = q) ▸ h
/-- A function that returns a class. -/
def CRet (W : World) (p : Int → Bool) (e : Ending) (w' : World) : Prop := ∃ v, e = .returned v ∧ Cls w' v p ∧ Below W.heap.size W w'
theorem CRet.congr {W w' : World} {p q : Int → Bool} {e : Ending} (h : CRet W p e w') (g : ∀ r, p r = q r) : CRet W q e w' := (funext g : p = q) ▸ h

theorem cell_new (w : World) (v : Value) (t : TypeId) : (w.alloc (.cells #[v] t)).cell? ⟨w.heap.size, 0, none⟩ = some v := by
  have h := heap_alloc_new w (.cells #[v] t)
  unfold World.cell?
  rw [h]; rfl
set_option maxHeartbeats 400000 in
theorem oneOf1_any (r : Int) (s : ByteArray) (x : Nat) (w : World) (hs : ∀ i (h : i < s.size), (s[i]'h).toNat < 128) (hx : w.cell? ⟨x, 0, none⟩ = some (.string s)) (_hm : s.size ≤ 1000) :
    Calls Try.prog 80 #[.int .i32 r, .pointer (some ⟨x, 0, none⟩)] w fun e w' => e = .returned (.bool (s.data.toList.any fun c => iv c == r)) ∧ Below w.heap.size w w' := by
  have bi := below_iter w s
  have si := size_iter w s
  have HS := Lib.hid hs
  clear hs
  go_enter Try.func80, Try.ntmps80
  go_wp2
  go_loopw [5] (fun a wr => ∃ pos : Nat, pos ≤ s.size ∧ wr = w.iter s pos ∧ (s.data.toList.take pos).any (fun c => iv c == r) = false) (fun _ wr => s.size - wr.iterPos w.heap.size)
  case atStart => exact ⟨0, Nat.zero_le _, rfl, rfl⟩
  case round =>
    obtain ⟨pos, hps, rfl, hn⟩ := hrel
    have HN := Lib.hid hn
    clear hn
    by_cases hp : pos < s.size
    · have hnx : ∀ ty, (Instr.next (.pointer (some ⟨w.heap.size, 0, none⟩)) true ty).run Try.prog (w.iter s pos) = _ := fun ty => run_next_ascii w s pos ty hp (HS.out pos hp)
      have hl : pos < s.data.toList.length := hp
      have e : s.data.toList.take (pos + 1) = s.data.toList.take pos ++ [s[pos]] := by rw [List.take_succ_eq_append_getElem hl]; rfl
      have HE := Lib.hid e
      clear e
      obtain ⟨c, hc⟩ : ∃ c, c = s[pos] := ⟨_, rfl⟩
      rw [← hc] at hnx
      have HC := Lib.hid hc
      clear hc
      go_wp2
      · go_ret
        refine ⟨ret_bool ?_, bi _⟩
        have hcr : ((c.toNat : Int) == r) = true := by assumption
        symm
        rw [List.any_eq_true]
        exact ⟨c, by rw [HC.out]; exact List.getElem_mem hl, hcr⟩
      · go_roundw
        case rel =>
          have hcr : ((c.toNat : Int) == r) = false := by assumption
          exact ⟨pos + 1, by omega, rfl, by rw [HE.out, List.any_append, HN.out, ← HC.out]; simpa [iv] using hcr⟩
        case measure => simp; omega
    · have hnx : ∀ ty, (Instr.next (.pointer (some ⟨w.heap.size, 0, none⟩)) true ty).run Try.prog (w.iter s pos) = _ := fun ty => run_next_end w s pos ty hp
      go_wp2
      go_ret
      refine ⟨ret_bool ?_, bi _⟩
      rw [← HN.out, List.take_of_length_le (by show s.data.size ≤ pos; have : s.size = s.data.size := rfl; omega)]
theorem oneOf_any (s : ByteArray) (w : World) (hs : ∀ i (h : i < s.size), (s[i]'h).toNat < 128) (hm : s.size ≤ 1000) : Calls Try.prog 62 #[.string s] w (CRet w fun r => s.data.toList.any fun c => iv c == r) := by
  have HS := Lib.hid hs
  clear hs
  go_enter Try.func62, Try.ntmps62
  go_wp2
  go_ret
  refine ⟨_, rfl, ⟨_, _, rfl, call65, fun r W hW => ?_⟩, (Below.refl _ _).alloc (Nat.le_refl _) _⟩
  have h1 : W.cell? ⟨w.heap.size, 0, none⟩ = some (.string s) := by
    rw [hW.cell (by simp)]
    exact cell_new w _ _
  exact oneOf1_any r s _ W HS.out h1 hm
end Go.Proofs.Ytkmgapieoedelaa
