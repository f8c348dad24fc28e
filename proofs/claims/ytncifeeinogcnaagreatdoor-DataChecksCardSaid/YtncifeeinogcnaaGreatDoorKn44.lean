/- Texts of this seat, one behind the other: TuW, DfW. -/
import Derived.Test.YtncifeeinogcnaaGreatDoorKn43
import Derived.Test.YtncifeeinogcnaaGreatDoorKn38
import Derived.Test.YtncifeeinogcnaaGreatDoorKn42
/- The law's walk: which one is the first doesn't matter. -/
set_option maxRecDepth 100000
namespace Go.Proofs.YtncifeeinogcnaaGreatDoor
open Go.RowKit Go.Lib Go.Maps Go.Proofs.TreeMath

def RBt (w : World) (e : Ending) (w' : World) : Prop := e = .returned (.bool true) ∧ Below w.heap.size w w'
theorem UyOut.len {la lb : List Nd} {c : Int} {l : List (Int × List Nd)} (h : UyOut la lb c l) : l.length ≤ 8000 ∧ (∀ p ∈ l, p.2.length ≤ 4000 ∧ 0 ≤ p.1 ∧ p.1 ≤ 1048576) ∧ (c ≠ 0 → l = []) := by
  cases h with
  | form hb hc hl => exact ⟨by rw [hl]; simp, fun p hp => by rw [hl] at hp; simp at hp, fun _ => hl⟩
  | clash ta tb na nb ka kb ea eb oa ob hn hc hl => exact ⟨by rw [hl]; simp, fun p hp => by rw [hl] at hp; simp at hp, fun _ => hl⟩
  | great ta tb na nb ka kb ea eb oa ob s hs v hv hc hl => exact ⟨by rw [hl]; simp, fun p hp => by rw [hl] at hp; simp at hp, fun _ => hl⟩
  | ok ta tb na nb ka kb ea eb oa ob s hs ks hp hk kr hz hn hc hl =>
    refine ⟨by rw [hl]; exact Nat.le_trans (binds_len s ks) hn, fun p hm => ?_, fun h => absurd hc h⟩
    rw [hl] at hm
    obtain ⟨h1, _, h3⟩ := binds_mem s ks p hm
    exact ⟨by rw [h3, flatT_length]; exact hz _, kr _ h1⟩
end Go.Proofs.YtncifeeinogcnaaGreatDoor
/- The law's walk: whether declarations may be, and what their constructors are. -/
set_option maxRecDepth 100000
namespace Go.Proofs.YtncifeeinogcnaaGreatDoor
open Go.Shelf Go.RowKit Go.Lib Go.Sort Go.Maps Go.Proofs.TreeMath Go.Proofs.LexMath

theorem infoD : ∃ i, Tryz.prog.info? 110 = some i ∧ i.zero = some (.agg #[.string ⟨#[]⟩, .int .i64 0, .slice none 0 0]) ∧ i.size = 3 ∧ i.bytes = 48 := info_of' (by kernel_rfl)
theorem dts_copy {w w' : World} {B : Nat} {v u : Value} {ds : List Dt} (h : DtsAt w v ds) (hr : w'.ownsRow B 110 3 u ds.length (ds.flatMap Dt.cells)) (b : Below w.heap.size w w') : DtsAt w' u ds := ⟨SliceAt.of_owns hr, fun d hd => (h.2 d hd).below b⟩
theorem cells3_len (ds : List Dt) : (ds.flatMap Dt.cells).length = ds.length * 3 := by
  induction ds with
  | nil => rfl
  | cons c cs ih => rw [List.flatMap_cons, List.length_append, ih]; simp [Dt.cells]; omega
theorem dts_one {w : World} {v : Value} {ds : List Dt} (h : DtsAt w v ds) : ∀ u ∈ ds.flatMap Dt.cells, u.oneCell' = true := by
  intro u hu
  obtain ⟨d, hd, hu⟩ := List.mem_flatMap.1 hu
  obtain ⟨p, c, e⟩ := (h.2 d hd).form
  unfold Dt.cells at hu
  rw [e] at hu
  simp only [List.mem_cons, List.not_mem_nil, or_false] at hu
  rcases hu with rfl | rfl | rfl <;> rfl
theorem dts_src {w : World} {lq : Option Addr} {n lc : Nat} {ds : List Dt} (h : DtsAt w (.slice lq n lc) ds) (hn : n = ds.length) : ∀ W, Below w.heap.size w W → n ≠ 0 → ∃ ad, lq = some ad ∧ ∀ j u, (ds.flatMap Dt.cells)[j]? = some u → W.cell? (ad.add j) = some u := by
  intro W hW h0
  obtain ⟨_, p, c, e, _, _, h4⟩ := h.1
  simp only [Value.slice.injEq] at e
  obtain ⟨rfl, -, -⟩ := e
  obtain ⟨b, o, rfl, hb, hc⟩ := h4 (by omega)
  exact ⟨_, rfl, (hc.kept (hW.block b hb)).at⟩
theorem few_tiny {d : Dt} (h : FewDt d) : TinyD d := ⟨by have := h.1; omega, by have := h.2.1; omega, fun c hc => ⟨by have := (h.2.2 c hc).1; omega, by have := (h.2.2 c hc).2.1; omega, fun t ht => ⟨by have := ((h.2.2 c hc).2.2 t ht).1; omega, fun n hn => by have := ((h.2.2 c hc).2.2 t ht).2 n hn; omega⟩⟩⟩
set_option maxHeartbeats 4000000 in
theorem dchecks_walk (lv : Value) (ds : List Dt) (w : World) (h : DtsAt w lv ds) (HT : TabW w) : Calls Tryz.prog 7 #[lv] w (RBt w) := by
  obtain ⟨i0, hi, hz0, hz1, hz2⟩ := infoD
  have HI := Lib.hid (And.intro hi (And.intro hz0 (And.intro hz1 hz2)))
  have AW := Lib.hid (fun w' (h : Below w.heap.size w w') => awake10_any w' (HT.after h))
  have E : Hid (∀ w', Below w.heap.size w w' → RBt w (.returned (.bool true)) w') := Lib.hid fun w' h => ⟨rfl, h⟩
  have H := Lib.hid h
  have FW := Lib.hid (fun W (hW : Below w.heap.size w W) => dfew_any lv ds W (h.below hW))
  obtain ⟨lq, lc, rfl⟩ := h.form
  obtain ⟨n, hnn⟩ : ∃ n, n = ds.length := ⟨_, rfl⟩
  have HN := Lib.hid hnn
  rw [← hnn] at FW ⊢
  generalize RBt w = Z at E ⊢
  clear h hnn HT hi hz0 hz1 hz2
  go_enter Tryz.func7, Tryz.ntmps7
  go_wp2_with fail
  refine (AW.out w (Below.refl _ _)).mono ?_
  rintro e w1 ⟨rfl, b1⟩
  have B1 := Lib.hid b1
  clear b1
  go_wp2_with fail
  refine (FW.out w1 B1.out).mono ?_
  rintro e w2 ⟨fb, rfl, hfb, b2⟩
  have B2 := Lib.hid (B1.out.trans (b2.mono B1.out.size))
  have FB := Lib.hid hfb
  clear b2 hfb FW
  cases fb with
  | false =>
    clear FB
    go_wp2_with fail
    refine (AW.out w2 B2.out).mono ?_
    rintro e w3 ⟨rfl, b3⟩
    have F := Lib.hid (E.out _ (B2.out.trans (b3.mono B2.out.size)))
    clear b3
    go_wp2
    first | go_ret | skip
    exact F.out
  | true =>
    have FD := Lib.hid (FB.out rfl)
    have TD : Hid (∀ d ∈ ds, TinyD d) := Lib.hid fun d hd => few_tiny (FD.out.2 d hd)
    have n70 : n ≤ 70 := by rw [HN.out]; exact FD.out.1
    have CK := Lib.hid (fun W (hW : Below w.heap.size w W) => rcheck_any _ ds W (H.out.below hW) FD.out)
    unfold CdP at CK
    rw [← HN.out, rckD_eq] at CK
    have SG := Lib.hid (fun W v (hW : DtsAt W v ds) => dsigs_any v ds W hW (by rw [← HN.out]; omega) TD.out)
    have DC := Lib.hid (fun W v (hW : DtsAt W v ds) => dcheck_any v ds W hW (by rw [← HN.out]; omega) TD.out)
    unfold CdP at DC
    unfold SiP at SG
    have RT := Lib.hid (fun (h0 : checkD ds = 0) => checkD_right h0)
    generalize checkD ds = k at *
    have VS0 := Lib.hid (dts_src (n := n) (by rw [HN.out]; exact H.out) HN.out)
    have ONE := Lib.hid (dts_one H.out)
    have LEN : Hid ((ds.flatMap Dt.cells).length = n * 3) := Lib.hid (by rw [HN.out]; exact cells3_len ds)
    have CPY : Hid (∀ w' B u, w'.ownsRow B 110 3 u n (ds.flatMap Dt.cells) → Below w.heap.size w w' → DtsAt w' u ds) := Lib.hid fun w' B u hr b => dts_copy H.out (by rw [← HN.out]; exact hr) b
    obtain ⟨VS, hVS⟩ : ∃ VS, VS = ds.flatMap Dt.cells := ⟨_, rfl⟩
    rw [← hVS] at VS0 ONE LEN CPY
    have HK : Hid (0 + n ≤ maxLen ∧ (0 + n) * 48 ≤ 140737488355328) := Lib.hid (by constructor; unfold maxLen; omega; omega)
    clear hVS FB
    go_wp2_with fail
    refine (CK.out w2 B2.out).mono ?_
    rintro e w3 ⟨rfl, b3⟩
    have B3 := Lib.hid (B2.out.trans (b3.mono B2.out.size))
    have BE3 : Hid (Below w.heap.size w (w3.alloc (.cells #[] 110))) := Lib.hid (B3.out.trans ((box_keep _).mono B3.out.size))
    clear b3 CK
    go_wp2_with ((at_builtin; refine wpList_append_any _ rfl _ _ 42 rfl w3.heap.size 110 i0 (.agg #[.string ⟨#[]⟩, .int .i64 0, .slice none 0 0]) 3 48 Tryz.underlying42 HI.out.1 HI.out.2.1 HI.out.2.2.1 HI.out.2.2.2 rfl (by decide) (.slice (some ⟨w3.heap.size, 0, none⟩) 0 0) 0 [] rfl (World.ownsRow_made w3 #[] 0 (Nat.le_refl _) (Nat.zero_le _) rfl) lq n lc VS rfl LEN.out (VS0.out _ BE3.out) ONE.out HK.out.1 HK.out.2 (by simp) ?_; intro p4 cap4 w4 hown hgrow hblk; rw [Nat.zero_add] at hown; simp only [Nat.zero_add]; have R4 := Lib.hid hown; have B4 := Lib.hid (BE3.out.grown hgrow BE3.out.size fun g e => (by (simp [Value.ownBlock] at e; have := B3.out.size; omega))); clear hown hgrow hblk))
    have D4 := CPY.out _ _ _ (show w4.ownsRow w3.heap.size 110 3 (.slice p4 n cap4) n VS from R4.out) B4.out
    have C5 := Lib.hid (SG.out w4 _ D4)
    clear D4 R4 SG
    go_wp2_with fail
    refine C5.out.mono ?_
    rintro e w5 ⟨v5, k5, rfl, rfl, b5, hc⟩
    have B5 := Lib.hid (B4.out.trans (b5.mono B4.out.size))
    have BE5 : Hid (Below w.heap.size w (w5.alloc (.cells #[] 110))) := Lib.hid (B5.out.trans ((box_keep _).mono B5.out.size))
    have CASE := Lib.hid hc
    clear b5 hc C5
    go_wp2_with ((at_builtin; refine wpList_append_any _ rfl _ _ 42 rfl w5.heap.size 110 i0 (.agg #[.string ⟨#[]⟩, .int .i64 0, .slice none 0 0]) 3 48 Tryz.underlying42 HI.out.1 HI.out.2.1 HI.out.2.2.1 HI.out.2.2.2 rfl (by decide) (.slice (some ⟨w5.heap.size, 0, none⟩) 0 0) 0 [] rfl (World.ownsRow_made w5 #[] 0 (Nat.le_refl _) (Nat.zero_le _) rfl) lq n lc VS rfl LEN.out (VS0.out _ BE5.out) ONE.out HK.out.1 HK.out.2 (by simp) ?_; intro p6 cap6 w6 hown hgrow hblk; rw [Nat.zero_add] at hown; simp only [Nat.zero_add]; have R6 := Lib.hid hown; have B65 := Lib.hid ((box_keep (W := w5) (.cells #[] 110)).grown hgrow (by simp) fun g e => by (simp [Value.ownBlock] at e; omega)); clear hown hgrow hblk))
    have B6 := Lib.hid (B5.out.trans (B65.out.mono B5.out.size))
    have D6 := CPY.out _ _ _ (show w6.ownsRow w5.heap.size 110 3 (.slice p6 n cap6) n VS from R6.out) B6.out
    have C7 := Lib.hid (DC.out w6 _ D6)
    clear D6 R6 DC
    go_wp2_with fail
    refine C7.out.mono ?_
    rintro e w7 ⟨rfl, b7⟩
    have B7 := Lib.hid (B6.out.trans (b7.mono B6.out.size))
    have B75 := Lib.hid (B65.out.trans (b7.mono B65.out.size))
    have tk : (k5 != k5) = false := by simp
    clear b7 C7
    rcases CASE.out with ⟨hk, rfl⟩ | ⟨rfl, sl, hs, hsl⟩
    · have t0 : (k5 != 0) = true := by simpa using hk
      have F := Lib.hid (E.out _ B7.out)
      clear CASE hk
      go_wp2
      first | go_ret | skip
      exact F.out
    · obtain ⟨r60, rD⟩ := RT.out rfl
      have RS := Lib.hid (rsigs_any (.slice lq n lc) ds w7 (by rw [HN.out]; exact H.out.below B7.out) FD.out fun d hd => ⟨(rightD_le (rD d hd)).1, (rightD_le (rD d hd)).2.1⟩)
      have S7 := Lib.hid (hs.below B75.out)
      obtain ⟨sp, sc, rfl⟩ := hs.form
      have SLN : Hid (sl.length ≤ 1000000 ∧ ∀ s ∈ sl, s.ty.length ≤ 1000000) := Lib.hid (by
        have h1 := congrArg List.length hsl
        rw [List.length_map] at h1
        have e : (sigL (pairsOf ds)).length = (namesD ds).length := by unfold sigL namesD; rw [List.length_map, List.length_map]
        have h2 := namesD_len ds 70 fun d hd => (FD.out.2 d hd).2.1
        have h3 : ds.length * 70 ≤ 70 * 70 := Nat.mul_le_mul_right _ FD.out.1
        refine ⟨by omega, fun s hs => ?_⟩
        have hm : (s.name, s.ty) ∈ sigL (pairsOf ds) := by rw [← hsl]; exact List.mem_map.2 ⟨s, hs, rfl⟩
        unfold sigL at hm
        obtain ⟨x, hx, e2⟩ := List.mem_map.1 hm
        simp only [Prod.mk.injEq] at e2
        rw [← e2.2]
        unfold pairsOf at hx
        obtain ⟨d, hd, hx⟩ := List.mem_flatMap.1 hx
        obtain ⟨c, hc, rfl⟩ := List.mem_map.1 hx
        have fc := (FD.out.2 d hd).2.2 c hc
        have h4 := arrN_few c.args (declN d) fun t ht => (fc.2.2 t ht).1
        have h5 := declN_len d
        have h6 := (rightD_le (rD d hd)).2.1
        have h7 := fc.2.1
        simp only
        omega)
      have HSL := Lib.hid hsl
      have t0 : ((0 : Int) != 0) = false := by simp
      clear CASE hs hsl r60 rD
      go_wp2_with fail
      refine RS.out.mono ?_
      rintro e w8 ⟨v8, sl8, rfl, s8, e8, b8⟩
      have B8 := Lib.hid (B7.out.trans (b8.mono B7.out.size))
      have SS := Lib.hid (samesigs_any _ v8 sl sl8 w8 (S7.out.below b8) s8 (by unfold pr; rw [HSL.out, e8]) SLN.out.1 SLN.out.2)
      clear b8 s8 e8 RS
      go_wp2_with fail
      refine SS.out.mono ?_
      rintro e w9 ⟨rfl, b9⟩
      have F := Lib.hid (E.out _ (B8.out.trans (b9.mono B8.out.size)))
      clear b9 SS
      go_wp2
      first | go_ret | skip
      exact F.out
end Go.Proofs.YtncifeeinogcnaaGreatDoor
