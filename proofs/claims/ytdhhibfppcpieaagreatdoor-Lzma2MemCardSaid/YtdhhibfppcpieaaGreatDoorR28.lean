/-
  LqMemN, LzSet: put together.
-/
import Derived.Test.YtdhhibfppcpieaaGreatDoorR23
import Derived.Test.YtdhhibfppcpieaaGreatDoorR27
import Derived.Test.YtdhhibfppcpieaaGreatDoorR08
import Derived.Test.YtdhhibfppcpieaaGreatDoorR02
import Derived.Deep.Cut
set_option linter.unusedVariables false
set_option linter.unusedSimpArgs false
/-
  The meter's numbers where a decoder of LZMA2 is made and closed.
-/
namespace Go.Proofs.YtdhhibfppcpieaaGreatDoor
open Go.RowKit


/-- a quota of memory alone -/
def memQ (mem : Int) : Quo := ⟨mem, 0, 0, 0, 0⟩
theorem memQ_lit {mem : Int} (h : -9223372036854775808 ≤ mem ∧ mem ≤ 9223372036854775807) : Lit64 (memQ mem) := by constructor <;> dsimp only [memQ] <;> omega
theorem memQ_up (mem : Int) : (memQ mem).up.mem = max mem 0 := rfl

section
variable {q : Quo} {W P : Int}
theorem mem_one (h1 : 1 ≤ W) (h : W ≤ q.mem) : Tel.zero.doMem q W = ⟨W, W, 0, 0, 0, 0, 0⟩ := by
  unfold Tel.doMem wasOf codeOf Tel.zero
  dsimp only
  rw [if_pos ⟨rfl, by omega⟩, if_neg (by omega)]
  simp
  omega
theorem fit_one (h1 : 1 ≤ W) : fits Tel.zero.code Tel.zero.mem q.mem W ↔ W ≤ q.mem := by
  unfold fits Tel.zero
  dsimp only
  constructor
  · rintro ⟨_, h⟩; omega
  · intro h; exact ⟨rfl, by omega⟩
theorem fit_two (h1 : 1 ≤ W) (hP : 0 ≤ P) (h : W ≤ q.mem) : fits (Tel.zero.doMem q W).code (Tel.zero.doMem q W).mem q.mem P ↔ W + P ≤ q.mem := by
  rw [mem_one h1 h]
  unfold fits
  dsimp only
  constructor
  · rintro ⟨_, h⟩; omega
  · intro h; exact ⟨rfl, by omega⟩
theorem mem_two (h1 : 1 ≤ W) (hP : 0 ≤ P) (h : W + P ≤ q.mem) : (Tel.zero.doMem q W).doMem q P = ⟨W + P, W + P, 0, 0, 0, 0, 0⟩ := by
  rw [mem_one h1 (by omega)]
  unfold Tel.doMem wasOf codeOf
  dsimp only
  rw [if_pos ⟨rfl, by omega⟩, if_neg (by omega)]
  have e1 : W + max P 0 = W + P := by omega
  rw [e1]
  congr 1
  omega
theorem none_one (h1 : 1 ≤ W) (hq : 0 ≤ q.mem) (h : q.mem < W) : (Tel.zero.doMem q W).code = 101 ∧ (Tel.zero.doMem q W).mem = 0 := by
  unfold Tel.doMem wasOf codeOf Tel.zero
  dsimp only
  rw [if_pos ⟨rfl, by omega⟩, if_neg (by omega)]
  exact ⟨rfl, rfl⟩
theorem none_two (h1 : 1 ≤ W) (hP : 0 ≤ P) (h : W ≤ q.mem) (h2 : q.mem < W + P) : (((Tel.zero.doMem q W).doMem q P).doFree W).code = 101 ∧ (((Tel.zero.doMem q W).doMem q P).doFree W).mem = 0 := by
  rw [mem_one h1 h]
  unfold Tel.doFree Tel.doMem wasOf codeOf
  dsimp only
  rw [if_pos ⟨rfl, by omega⟩, if_neg (by omega)]
  exact ⟨rfl, by omega⟩
end
/-- a meter that has been free of it all -/
theorem free_two {W P : Int} (h1 : 1 ≤ W) (hP : 0 ≤ P) : (((⟨W + P, W + P, 0, 0, 0, 0, 0⟩ : Tel).doFree W).doFree P) = ⟨0, W + P, 0, 0, 0, 0, 0⟩ := by
  unfold Tel.doFree
  dsimp only
  have e : max (max (W + P - max W 0) 0 - max P 0) 0 = 0 := by omega
  rw [e]
theorem free_none (W : Int) : ((⟨0, W, 0, 0, 0, 0, 0⟩ : Tel).doFree 0) = ⟨0, W, 0, 0, 0, 0, 0⟩ := rfl

/-- New, where the memory isn't given -/
theorem short_new {w : World} {m lc lp pb dict : Nat} {mem size : Int} (h : SetOk lc lp pb dict) (hmem : -9223372036854775808 ≤ mem ∧ mem ≤ 9223372036854775807) (hM : MeterAt w 88 m (memQ mem).up Tel.zero) (h0 : -9223372036854775808 ≤ size) (h1 : size ≤ 1048576)
    (hs : mem < 2 * (probsN lc lp : Int) + max (min (dict : Int) size) 1) :
    Calls Tryz.prog 38 #[.agg #[.int .i64 (lc : Int), .int .i64 (lp : Int), .int .i64 (pb : Int), .int .i64 (dict : Int)], .int .i64 size, .pointer (some ⟨m, 0, none⟩)] w fun e w' =>
      e = .returned (.tuple #[.pointer none, .int .i64 101]) ∧ (∃ t, MeterAt w' 88 m (memQ mem).up t ∧ t.mem = 0) ∧ Only (fun i => i = m) w w' := by
  have hF : Fine (memQ mem).up Tel.zero := Fine.new (memQ_lit hmem)
  obtain ⟨W, hW⟩ : ∃ W, W = max (min (dict : Int) size) 1 := ⟨_, rfl⟩
  have hW1 : 1 ≤ W := by omega
  have hq0 : 0 ≤ (memQ mem).up.mem := by rw [memQ_up]; omega
  by_cases hf : W ≤ (memQ mem).up.mem
  · have hf2 : (memQ mem).up.mem < W + 2 * (probsN lc lp : Int) := by rw [memQ_up]; omega
    have hn := none_two (P := 2 * (probsN lc lp : Int)) hW1 (by omega) hf hf2
    refine (lshort_probs h hM hF h0 h1 (by rw [← hW]; exact (fit_one hW1).2 hf) (by rw [← hW, fit_two hW1 (by omega) hf]; omega)).mono ?_
    rintro e w' ⟨rfl, h2, h3⟩
    rw [← hW] at h2
    refine ⟨?_, ⟨_, h2, hn.2⟩, h3⟩
    rw [← hW, hn.1]
  · have hn := none_one (q := (memQ mem).up) hW1 hq0 (by omega)
    refine (lshort_window h hM hF (by rw [← hW, fit_one hW1]; omega)).mono ?_
    rintro e w' ⟨rfl, h2, h3⟩
    rw [← hW] at h2
    refine ⟨?_, ⟨_, h2, hn.2⟩, h3⟩
    rw [← hW, hn.1]

theorem shut_fs {fs : List Value} (hl : fs.length = 19) {u6 u7 : Value} (h6 : fs[6]? = some u6) (h7 : fs[7]? = some u7) : (shutFs fs)[5]? = some (.pointer none) ∧ (shutFs fs)[6]? = some u6 ∧ (shutFs fs)[7]? = some u7 ∧ (shutFs fs)[8]? = some (.int .i64 0) := by
  unfold shutFs
  refine ⟨?_, ?_, ?_, ?_⟩
  · rw [List.getElem?_set_self (by simp [hl])]
  · rw [List.getElem?_set_ne (by decide), List.getElem?_set_ne (by decide), List.getElem?_set_ne (by decide), List.getElem?_set_ne (by decide)]; exact h6
  · rw [List.getElem?_set_ne (by decide), List.getElem?_set_ne (by decide), List.getElem?_set_ne (by decide), List.getElem?_set_ne (by decide)]; exact h7
  · rw [List.getElem?_set_ne (by decide), List.getElem?_set_ne (by decide), List.getElem?_set_ne (by decide), List.getElem?_set_self (by simp [hl])]
theorem fine_pk {mem pk m : Int} (hmem : -9223372036854775808 ≤ mem ∧ mem ≤ 9223372036854775807) (h0 : 0 ≤ m) (h1 : m ≤ pk) (h2 : pk ≤ mem) : Fine (memQ mem).up ⟨m, pk, 0, 0, 0, 0, 0⟩ := by
  have hF : Fine (memQ mem).up Tel.zero := Fine.new (memQ_lit hmem)
  have hq : (memQ mem).up.mem = max mem 0 := rfl
  exact { hF with m0 := h0, m1 := h1, m2 := (by show pk ≤ _; rw [hq]; omega) }

theorem used_is {w : World} {g : Nat} {q : Quo} {x1 x2 x3 x4 x5 x6 x7 : Int} (h : MeterAt w 88 g q ⟨x1, x2, x3, x4, x5, x6, x7⟩) :
    Calls Tryz.prog 15 #[.pointer (some ⟨g, 0, none⟩)] w fun e w' => e = .returned (.agg #[.int .i64 x1, .int .i64 x2, .int .i64 x3, .int .i64 x4, .int .i64 x5, .int .i64 x6]) ∧ Only (fun _ => False) w w' := (used_any h).mono fun _ _ ⟨h1, h2⟩ => ⟨h1, Only.of_below h2⟩

/-- New, where there is no such property -/
theorem qnew_props {p : Nat} {size : Int} {v : Value} (hp : 40 < p) (hp2 : p < 256) (w : World) :
    Calls Tryz.prog 21 #[.int .u8 (p : Int), .int .i64 size, v] w fun e w' => e = .returned (.tuple #[.pointer none, .int .i64 11]) ∧ w = w' := by
  have KD := qdict_any (p := p) hp2 w
  have hdc : dictC p = 11 := by unfold dictC; rw [if_pos hp]
  rw [hdc] at KD
  have KD := Lib.hid KD
  clear hdc hp hp2
  go_enter Tryz.func21, Tryz.ntmps21
  go_wp2_with fail
  refine KD.out.mono ?_
  rintro e w1 ⟨rfl, rfl⟩
  clear KD
  go_wp2_with fail
  go_ret2
  exact ⟨rfl, rfl⟩
theorem dict_set {p : Nat} (hp : p ≤ 40) : SetOk 4 0 0 (dictN p) := ⟨by omega, by omega, by omega, (dict_le hp).1, (dict_le hp).2⟩
/-- New, where the memory isn't given -/
theorem qnew_short {w : World} {m p : Nat} {mem size : Int} (hp : p ≤ 40) (hmem : -9223372036854775808 ≤ mem ∧ mem ≤ 9223372036854775807) (hM : MeterAt w 88 m (memQ mem).up Tel.zero) (h0 : -9223372036854775808 ≤ size) (h1 : size ≤ 1048576)
    (hs : mem < 2 * (probsN 4 0 : Int) + max (min (dictN p : Int) size) 1) :
    Calls Tryz.prog 21 #[.int .u8 (p : Int), .int .i64 size, .pointer (some ⟨m, 0, none⟩)] w fun e w' =>
      e = .returned (.tuple #[.pointer none, .int .i64 101]) ∧ (∃ t, MeterAt w' 88 m (memQ mem).up t ∧ t.mem = 0) ∧ Only (fun i => i = m) w w' := by
  have KD := qdict_any (p := p) (by omega) w
  have hdc : dictC p = 0 := by unfold dictC; rw [if_neg (by omega)]
  rw [hdc] at KD
  have KN := short_new (lc := 4) (lp := 0) (pb := 0) (dict := dictN p) (size := size) (dict_set hp) hmem hM h0 h1 hs
  generalize dictN p = dict at *
  have KN := Lib.hid KN
  have KD := Lib.hid KD
  clear hdc hp hmem hM h0 h1 hs
  go_enter Tryz.func21, Tryz.ntmps21
  go_wp2_with fail
  refine KD.out.mono ?_
  rintro e w1 ⟨rfl, rfl⟩
  clear KD
  go_wp2_with fail
  refine KN.out.mono ?_
  rintro e w2 ⟨rfl, ht, hO⟩
  have HE := Lib.hid (And.intro ht hO)
  clear ht hO KN
  go_wp2_with fail
  go_ret2
  exact ⟨rfl, HE.out.1, HE.out.2⟩
/-- New, where it is -/
theorem qnew_full {w : World} {m p : Nat} {mem size : Int} (hp : p ≤ 40) (hmem : -9223372036854775808 ≤ mem ∧ mem ≤ 9223372036854775807) (hM : MeterAt w 88 m (memQ mem).up Tel.zero) (h0 : -9223372036854775808 ≤ size) (h1 : size ≤ 1048576)
    {W P : Int} (hW : W = max (min (dictN p : Int) size) 1) (hP : P = 2 * (probsN 4 0 : Int)) (hs : P + W ≤ mem) :
    Calls Tryz.prog 21 #[.int .u8 (p : Int), .int .i64 size, .pointer (some ⟨m, 0, none⟩)] w fun e w' =>
      ∃ (K : Kon) (Gw : Nat → Prop) (d : Nat), K.m = m ∧ K.room = P ∧ (K.sz : Int) = W ∧ e = .returned (.tuple #[.pointer (some ⟨d, 0, none⟩), .int .i64 0]) ∧ L2 K d w'.heap.size w'.heap.size [] (unFs K 4 0 0 (dictN p)) (List.replicate (1847 + K.nl) 1024) w' Gw ⟨ds0, [], []⟩ ∧
        MeterAt w' 88 m (memQ mem).up ⟨W + P, W + P, 0, 0, 0, 0, 0⟩ ∧ (w.heap.size ≤ K.g ∧ w.heap.size ≤ d ∧ ∀ i, Gw i → w.heap.size ≤ i) ∧ Only (fun i => i = m) w w' := by
  have hF : Fine (memQ mem).up Tel.zero := Fine.new (memQ_lit hmem)
  have hW1 : 1 ≤ W := by omega
  have hpn : (probsN 4 0 : Int) = 14135 := by decide
  have hP0 : 0 ≤ P := by omega
  have hq : (memQ mem).up.mem = max mem 0 := rfl
  have hmw := hM.lt
  have hdd := dict_le hp
  refine (qnew_any hp hM hF h0 h1 (by rw [← hW]; exact (fit_one hW1).2 (by omega)) (by rw [← hW, ← hP]; exact (fit_two hW1 hP0 (by omega)).2 (by omega))).mono ?_
  rintro e w' ⟨K, Gw, d, k1, k2, k3, k4, rfl, hB, hU, hM', ⟨n1, n2, n3⟩, ⟨d1, d2, d3, d4⟩, hO⟩
  rw [← hW, ← hP, mem_two hW1 hP0 (by omega)] at hM'
  have hds : d < w'.heap.size := hB.lt
  refine ⟨K, Gw, d, k1, by rw [k2, hP], by rw [k3, ← hW]; omega, rfl, ⟨⟨hB, (fun h => by cases h), hds, Nat.le_refl _, by show (0 : Nat) < 256; omega⟩, ⟨hU.row, hU.win, rfl, rfl, rfl, hU.gn, hU.mg, hU.mb, fun i hi => ⟨(hU.wd i hi).1, (hU.wd i hi).2.1, (hU.wd i hi).2.2.1⟩, ?_, ?_⟩, by omega, by omega, ?_, ⟨by omega, by omega, ?_⟩, fun i hi => ⟨?_, .inl ?_⟩, .inr fun i hi => ?_⟩, hM', ⟨n1, d1, n3⟩, hO⟩
  · rw [k3]; omega
  · rw [k1]; have := hO.size; omega
  · rw [k1]; have := hO.size; omega
  · rw [k1]; omega
  · have := d4 i hi; omega
  · have := d4 i hi; omega
  · have := d4 i hi; omega

/-- a closed one -/
structure Sh2 (K : Kon) (d f lo : Nat) (w : World) (q : Quo) (pk : Int) (B : Nat) (fs : List Value) (ps : List Nat) (G : Nat → Prop) (sd : Ds) : Prop where
  at_ : LzAt w K.g fs ps
  f6 : fs[6]? = some (.pointer (some ⟨K.wg, 0, none⟩))
  f7 : fs[7]? = some (.pointer (some ⟨K.m, 0, none⟩))
  f8 : fs[8]? = some (.int .i64 0)
  win : Pwin w K.wg G K.m ⟨K.sz, [], true⟩
  mt : MeterAt w 88 K.m q ⟨0, pk, 0, 0, 0, 0, 0⟩
  blk : Blk w d 98 (d2Cells K.g f sd)
  src : sd.src = false
  nd : sd.nd < 256
  ap : ¬ G K.m ∧ ¬ G K.g ∧ K.m ≠ K.g ∧ d ≠ K.g ∧ d ≠ K.m ∧ ¬ G d
  low : (∀ i, G i → B ≤ i) ∧ B ≤ K.g ∧ B ≤ K.m ∧ B ≤ d ∧ B ≤ w.heap.size
  lo : d < lo ∧ lo ≤ f ∧ B ≤ f

section
variable {K : Kon} {d f lo : Nat} {w w' : World} {q : Quo} {pk : Int} {B : Nat} {fs : List Value} {ps : List Nat} {G : Nat → Prop} {sd : Ds}
theorem Sh2.quiet (h : Sh2 K d f lo w q pk B fs ps G sd) (hO : Only (fun _ => False) w w') : Sh2 K d f lo w' q pk B fs ps G sd :=
  ⟨h.at_.only hO (fun h => h), h.f6, h.f7, h.f8, h.win.only hO (fun _ _ h => h), h.mt.only hO (fun h => h), h.blk.only hO (fun h => h), h.src, h.nd, h.ap, ⟨h.low.1, h.low.2.1, h.low.2.2.1, h.low.2.2.2.1, Nat.le_trans h.low.2.2.2.2 hO.size⟩, h.lo⟩
theorem close2_one {Gw : Nat → Prop} {W P : Int} {q2 : Lq} {bs : List UInt8} (hR : Rdr w d K.g f lo bs q2) (hs : q2.s.src = false) (hz : Rz K w Gw [] fs ps) (hdg : d ≠ K.g ∧ d ≠ K.lb ∧ d ≠ K.m) (hwd : ∀ i, Gw i → i ≠ d) (hr : K.room = P) (hsz : (K.sz : Int) = W) (hW1 : 1 ≤ W) (hP0 : 0 ≤ P) (hP1 : P ≤ 1000000)
    (hM : MeterAt w 88 K.m q ⟨W + P, W + P, 0, 0, 0, 0, 0⟩) (hF : Fine q ⟨W + P, W + P, 0, 0, 0, 0, 0⟩) (hB : B ≤ K.g ∧ B ≤ K.m ∧ B ≤ d ∧ B ≤ f ∧ ∀ i, Gw i → B ≤ i) :
    Calls Tryz.prog 27 #[.pointer (some ⟨d, 0, none⟩)] w fun e w' => e = .returned (.tuple #[]) ∧ (∃ fs ps G sd, Sh2 K d f lo w' q (W + P) B fs ps G sd) ∧ Below B w w' := by
  have hlt := hM.lt
  have hgt := hz.row.1.lt
  have hdt := hR.blk.lt
  refine ((qclose_any hR.blk hz.row.1 (by rw [List.getElem?_set_ne (by decide)]; exact hz.f6) (by rw [List.getElem?_set_ne (by decide)]; exact hz.f7) (by rw [List.getElem?_set_ne (by decide)]; exact hz.f8) (by rw [hr]; omega) hz.win hz.sz hM hF (fun hh => (hz.wd _ hh).2.2 rfl) (fun hh => (hz.wd _ hh).1 rfl) hz.mg hdg.1 hdg.2.2 (fun hh => hwd _ hh rfl)).1).mono ?_
  rintro e w' ⟨rfl, G', h1, h2, h3, h4, h5, h6⟩
  have h3 : MeterAt w' 88 K.m q (((⟨W + P, W + P, 0, 0, 0, 0, 0⟩ : Tel).doFree (K.sz : Int)).doFree K.room) := h3
  rw [hr, hsz, free_two hW1 hP0] at h3
  obtain ⟨s5, s6, s7, s8⟩ := shut_fs hz.row.1.len (u6 := .pointer (some ⟨K.wg, 0, none⟩)) (u7 := .pointer (some ⟨K.m, 0, none⟩)) (by rw [List.getElem?_set_ne (by decide)]; exact hz.f6) (by rw [List.getElem?_set_ne (by decide)]; exact hz.f7)
  obtain ⟨b1, b2, b3, b4, b5⟩ := hB
  have hG' : ∀ j, (∀ i, Gw i → i ≠ j) → j < w.heap.size → ¬ G' j := fun j hj hl hh => by
    rcases h5 _ hh with e | e
    · exact hj _ e rfl
    · omega
  refine ⟨rfl, ⟨_, _, G', _, h1, s6, s7, s8, h2, h3, h4, rfl, hR.nd, ⟨hG' _ (fun i hi => (hz.wd i hi).2.2) hlt, hG' _ (fun i hi => (hz.wd i hi).1) hgt, hz.mg, hdg.1, hdg.2.2, hG' _ hwd hdt⟩, ⟨fun i hi => ?_, b1, b2, b3, ?_⟩, ⟨hR.df, hR.ff, b4⟩⟩, h6.below (by omega) ?_⟩
  · rcases h5 _ hi with e | e
    · exact b5 _ e
    · omega
  · have := h6.size; omega
  · rintro i (e | e | e | e)
    · exact b5 _ e
    · exact e ▸ b2
    · exact e ▸ b1
    · exact e ▸ b3
theorem close2_two (h : Sh2 K d f lo w q pk B fs ps G sd) (hz : K.sz ≤ 1048576) (hF : Fine q ⟨0, pk, 0, 0, 0, 0, 0⟩) :
    Calls Tryz.prog 27 #[.pointer (some ⟨d, 0, none⟩)] w fun e w' => e = .returned (.tuple #[]) ∧ (∃ fs ps G sd, Sh2 K d f lo w' q pk B fs ps G sd) ∧ Below B w w' := by
  have hlt := h.mt.lt
  have hgt := h.at_.lt
  have hdt := h.blk.lt
  obtain ⟨g1, g2, g3, g4, g5, g6⟩ := h.ap
  obtain ⟨b5, b1, b2, b3, b0⟩ := h.low
  refine ((qclose_any h.blk h.at_ h.f6 h.f7 h.f8 (by omega) h.win hz h.mt hF g1 g2 g3 g4 g5 g6).1).mono ?_
  rintro e w' ⟨rfl, G', h1, h2, h3, h4, h5, h6⟩
  have h3 : MeterAt w' 88 K.m q ((⟨0, pk, 0, 0, 0, 0, 0⟩ : Tel).doFree 0) := h3
  rw [free_none] at h3
  obtain ⟨s5, s6, s7, s8⟩ := shut_fs h.at_.len h.f6 h.f7
  have hG' : ∀ j, ¬ G j → j < w.heap.size → ¬ G' j := fun j hj hl hh => by
    rcases h5 _ hh with e | e
    · exact hj e
    · omega
  refine ⟨rfl, ⟨_, _, G', _, h1, s6, s7, s8, h2, h3, h4, rfl, h.nd, ⟨hG' _ g1 hlt, hG' _ g2 hgt, g3, g4, g5, hG' _ g6 hdt⟩, ⟨fun i hi => ?_, b1, b2, b3, ?_⟩, h.lo⟩, h6.below (by omega) ?_⟩
  · rcases h5 _ hi with e | e
    · exact b5 _ e
    · omega
  · have := h6.size; omega
  · rintro i (e | e | e | e)
    · exact b5 _ e
    · exact e ▸ b2
    · exact e ▸ b1
    · exact e ▸ b3
theorem fin2 (h : Sh2 K d f lo w q pk B fs ps G sd) :
    Calls Tryz.prog 26 #[.pointer (some ⟨d, 0, none⟩)] w fun e w' => e = .returned (.bool false) ∧ Below B w w' := by
  have hR : Rdr w d K.g f lo [] ⟨sd, [], []⟩ := ⟨h.blk, (fun hs => by rw [show (⟨sd, [], []⟩ : Lq).s.src = sd.src from rfl, h.src] at hs; cases hs), h.lo.1, h.lo.2.1, h.nd⟩
  have he : (⟨sd, [], []⟩ : Lq).ends = false := ends_bad (by
    unfold Lq.at_
    split
    · exact h.src
    · rw [rd_none h.src]; exact h.src)
  refine (qfinish_any hR).mono ?_
  rintro e w' ⟨rfl, q', _, _, hO⟩
  rw [he]
  refine ⟨rfl, hO.below h.low.2.2.2.2 ?_⟩
  rintro i (e | e)
  · exact e ▸ h.low.2.2.2.1
  · exact e ▸ h.lo.2.2
end
end Go.Proofs.YtdhhibfppcpieaaGreatDoor

/-
  The reference of LZMA: settings.
-/
namespace Go.Proofs.YtdhhibfppcpieaaGreatDoor
open Go.RowKit

set_option maxHeartbeats 4000000 in
theorem may_any (a b c d : Int) (w : World) :
    Calls Tryz.prog 39 #[.agg #[.int .i64 a, .int .i64 b, .int .i64 c, .int .i64 d]] w fun x w' => x = .returned (.bool (maySet a b c d)) ∧ Below w.heap.size w w' := by
  have HB := Lib.hid ((Below.refl w.heap.size w).alloc (Nat.le_refl _) (.cells #[.int .i64 a, .int .i64 b, .int .i64 c, .int .i64 d] 51))
  obtain ⟨v, hv⟩ : ∃ v, v = maySet a b c d := ⟨_, rfl⟩
  rw [← hv]
  unfold maySet at hv
  by_cases h0 : 0 ≤ a
  · have g0 : a ≥ 0 := h0
    by_cases h1 : a ≤ 8
    · have g1 : a ≤ 8 := h1
      by_cases h2 : 0 ≤ b
      · have g2 : b ≥ 0 := h2
        by_cases h3 : b ≤ 4
        · have g3 : b ≤ 4 := h3
          by_cases h4 : 0 ≤ c
          · have g4 : c ≥ 0 := h4
            by_cases h5 : c ≤ 4
            · have g5 : c ≤ 4 := h5
              by_cases h6 : 4096 ≤ d
              · have g6 : d ≥ 4096 := h6
                by_cases h7 : d ≤ 4294967295
                · have g7 : d ≤ 4294967295 := h7
                  obtain rfl : v = true := by rw [hv]; simp; omega
                  clear hv
                  go_enter Tryz.func39, Tryz.ntmps39
                  go_wp2_with fail
                  go_ret
                  exact ⟨rfl, HB.out⟩
                · have g7 : ¬ d ≤ 4294967295 := h7
                  obtain rfl : v = false := by rw [hv]; simp; omega
                  clear hv
                  go_enter Tryz.func39, Tryz.ntmps39
                  go_upto_region 1 with fail
                  go_step
                  iterate 39 (with_reducible refine wpList_step (fun K hK => ?_); go_simp; (first | (with_reducible refine hK _ _ ?_) | (refine Eq.mpr (if_neg ?_) ?_; (· decide); with_reducible refine hK _ _ ?_)); clear hK K)
                  go_wp2_with fail
                  go_ret
                  exact ⟨rfl, HB.out⟩
              · have g6 : ¬ d ≥ 4096 := h6
                obtain rfl : v = false := by rw [hv]; simp; omega
                clear hv
                go_enter Tryz.func39, Tryz.ntmps39
                go_upto_region 1 with fail
                go_step
                iterate 39 (with_reducible refine wpList_step (fun K hK => ?_); go_simp; (first | (with_reducible refine hK _ _ ?_) | (refine Eq.mpr (if_neg ?_) ?_; (· decide); with_reducible refine hK _ _ ?_)); clear hK K)
                go_wp2_with fail
                go_ret
                exact ⟨rfl, HB.out⟩
            · have g5 : ¬ c ≤ 4 := h5
              obtain rfl : v = false := by rw [hv]; simp; omega
              clear hv
              go_enter Tryz.func39, Tryz.ntmps39
              go_upto_region 1 with fail
              go_step
              iterate 39 (with_reducible refine wpList_step (fun K hK => ?_); go_simp; (first | (with_reducible refine hK _ _ ?_) | (refine Eq.mpr (if_neg ?_) ?_; (· decide); with_reducible refine hK _ _ ?_)); clear hK K)
              go_wp2_with fail
              go_ret
              exact ⟨rfl, HB.out⟩
          · have g4 : ¬ c ≥ 0 := h4
            obtain rfl : v = false := by rw [hv]; simp; omega
            clear hv
            go_enter Tryz.func39, Tryz.ntmps39
            go_upto_region 1 with fail
            go_step
            iterate 39 (with_reducible refine wpList_step (fun K hK => ?_); go_simp; (first | (with_reducible refine hK _ _ ?_) | (refine Eq.mpr (if_neg ?_) ?_; (· decide); with_reducible refine hK _ _ ?_)); clear hK K)
            go_wp2_with fail
            go_ret
            exact ⟨rfl, HB.out⟩
        · have g3 : ¬ b ≤ 4 := h3
          obtain rfl : v = false := by rw [hv]; simp; omega
          clear hv
          go_enter Tryz.func39, Tryz.ntmps39
          go_upto_region 1 with fail
          go_step
          iterate 39 (with_reducible refine wpList_step (fun K hK => ?_); go_simp; (first | (with_reducible refine hK _ _ ?_) | (refine Eq.mpr (if_neg ?_) ?_; (· decide); with_reducible refine hK _ _ ?_)); clear hK K)
          go_wp2_with fail
          go_ret
          exact ⟨rfl, HB.out⟩
      · have g2 : ¬ b ≥ 0 := h2
        obtain rfl : v = false := by rw [hv]; simp; omega
        clear hv
        go_enter Tryz.func39, Tryz.ntmps39
        go_upto_region 1 with fail
        go_step
        iterate 39 (with_reducible refine wpList_step (fun K hK => ?_); go_simp; (first | (with_reducible refine hK _ _ ?_) | (refine Eq.mpr (if_neg ?_) ?_; (· decide); with_reducible refine hK _ _ ?_)); clear hK K)
        go_wp2_with fail
        go_ret
        exact ⟨rfl, HB.out⟩
    · have g1 : ¬ a ≤ 8 := h1
      obtain rfl : v = false := by rw [hv]; simp; omega
      clear hv
      go_enter Tryz.func39, Tryz.ntmps39
      go_upto_region 1 with fail
      go_step
      iterate 39 (with_reducible refine wpList_step (fun K hK => ?_); go_simp; (first | (with_reducible refine hK _ _ ?_) | (refine Eq.mpr (if_neg ?_) ?_; (· decide); with_reducible refine hK _ _ ?_)); clear hK K)
      go_wp2_with fail
      go_ret
      exact ⟨rfl, HB.out⟩
  · have g0 : ¬ a ≥ 0 := h0
    obtain rfl : v = false := by rw [hv]; simp; omega
    clear hv
    go_enter Tryz.func39, Tryz.ntmps39
    go_upto_region 1 with fail
    go_step
    iterate 39 (with_reducible refine wpList_step (fun K hK => ?_); go_simp; (first | (with_reducible refine hK _ _ ?_) | (refine Eq.mpr (if_neg ?_) ?_; (· decide); with_reducible refine hK _ _ ?_)); clear hK K)
    go_wp2_with fail
    go_ret
    exact ⟨rfl, HB.out⟩
end Go.Proofs.YtdhhibfppcpieaaGreatDoor
