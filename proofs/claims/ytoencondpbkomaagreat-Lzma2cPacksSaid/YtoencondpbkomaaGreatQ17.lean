/-
  PsFind, CkStream, LwPrpN, SrcPt, LwPrp: put together.
-/
import Derived.Test.YtoencondpbkomaaGreatQ16
import Derived.Deep.RegionHeld3
import Derived.Deep.Cut
import Derived.Test.YtoencondpbkomaaGreatQ14
import Derived.Deep.RegionLaw
import Derived.BigQuiet
import Derived.Deep.CutRange
import Derived.Test.YtoencondpbkomaaGreatQ01
import Derived.Deep.QuietTactic
import Derived.IntWalk
import Derived.Lib.Walk
import Derived.Test.YtoencondpbkomaaGreatQ05
set_option linter.unusedVariables false
set_option linter.unusedSimpArgs false
/-
  The program's Find: the walk.
-/
namespace Go.Proofs.YtoencondpbkomaaGreat
open Go.RowKit

def fromN (n : Nat) (x : Int) : Nat := (min (max x 0) (n : Int)).toNat
def toN (n F : Nat) (x : Int) : Nat := (min (max x (F : Int)) (n : Int)).toNat
def dictI (x : Int) : Nat := (max x 1).toNat
def FindPost (w : World) (bs : List UInt8) (D T : Nat) (s : Ps) (x : Ending) (w' : World) : Prop :=
  Below w.heap.size w w' ∧ ∃ (L : List Pq) (s' : Ps) (R : Option Addr) (cl : Nat), findF bs D T s = (L, s') ∧ s'.Lit ∧ L.length ≤ T ∧ x = .returned (.tuple #[.slice R L.length cl, .agg #[.int .u32 (s'.r0 : Int), .int .u32 (s'.r1 : Int), .int .u32 (s'.r2 : Int), .int .u32 (s'.r3 : Int)]]) ∧
    w'.ownsRow w.heap.size 59 4 (.slice R L.length cl) L.length (L.flatMap pkV)
theorem cut_get (bs : List UInt8) (P T : Nat) (hT : T ≤ bs.length) : ∀ j, j < T - P → ((bs.take T).drop P).getD j 0 = bs.getD (P + j) 0 := by
  intro j hj
  simp only [List.getD_eq_getElem?_getD, List.getElem?_drop]
  rw [List.getElem?_take_of_lt (by omega)]
section
variable {w : World} {A : Option Addr} {n c : Nat} {bs : List UInt8} {fi ti di : Int} {r0 r1 r2 r3 : Nat}
set_option maxRecDepth 100000 in
set_option maxHeartbeats 16000000 in
theorem pfind_any (hS : Sl w A n (bv bs)) (hn : n ≤ 1000000000) (hnc : n ≤ c) (hc : c ≤ maxLen) (hd1 : -9223372036854775808 ≤ di) (hd2 : di ≤ 9223372036854775807) (hl : Ps.Lit ⟨0, r0, r1, r2, r3⟩) :
    Calls Tryz.prog 48 #[.slice A n c, .int .i64 fi, .int .i64 ti, .int .i64 di, .agg #[.int .u32 (r0 : Int), .int .u32 (r1 : Int), .int .u32 (r2 : Int), .int .u32 (r3 : Int)]] w (FindPost w bs (dictI di) (toN n (fromN n fi) ti) ⟨fromN n fi, r0, r1, r2, r3⟩) := by
  have hbl : bs.length = n := by rw [← bv_length]; exact hS.1
  obtain ⟨F, hF⟩ : ∃ F, F = fromN n fi := ⟨_, rfl⟩
  obtain ⟨T, hT⟩ : ∃ T, T = toN n F ti := ⟨_, rfl⟩
  obtain ⟨D, hD⟩ : ∃ D, D = dictI di := ⟨_, rfl⟩
  obtain ⟨P, hP⟩ : ∃ P, P = F - D := ⟨_, rfl⟩
  rw [← hF, ← hT, ← hD]
  obtain ⟨x1, hx1⟩ : ∃ x1, x1 = max fi 0 := ⟨_, rfl⟩
  obtain ⟨x2, hx2⟩ : ∃ x2, x2 = max ti (F : Int) := ⟨_, rfl⟩
  have hFn : F ≤ n ∧ (F : Int) = min x1 (n : Int) := by rw [hF, hx1]; unfold fromN; omega
  have hTn : F ≤ T ∧ T ≤ n ∧ (T : Int) = min x2 (n : Int) := by rw [hT, hx2]; unfold toN; omega
  have hDn : 1 ≤ D ∧ (D : Int) = max di 1 := by rw [hD]; unfold dictI; omega
  unfold maxLen at hc
  have m1 := max2_int (P := Tryz.prog) #[3, 3] 3 fi 0 x1 hx1
  have m2 := min2_int (P := Tryz.prog) #[3, 3] 3 x1 (n : Int) (F : Int) hFn.2
  have m3 := max2_int (P := Tryz.prog) #[3, 3] 3 ti (F : Int) x2 hx2
  have m4 := min2_int (P := Tryz.prog) #[3, 3] 3 x2 (n : Int) (T : Int) hTn.2.2
  have m5 := max2_int (P := Tryz.prog) #[3, 3] 3 di 1 (D : Int) hDn.2
  have e1 : wrap64 ((F : Int) - (D : Int)) = (F : Int) - (D : Int) := IntWalk.wrap64_in _ (by omega)
  have m6 := max2_int (P := Tryz.prog) #[3, 3] 3 ((F : Int) - (D : Int)) 0 (P : Int) (by omega)
  have HH := Lib.hid (show F ≤ T ∧ T ≤ n ∧ P ≤ F ∧ P = F - D ∧ 1 ≤ D ∧ D ≤ 9223372036854775807 ∧ n ≤ c ∧ n ≤ 1000000000 ∧ bs.length = n from ⟨hTn.1, hTn.2.1, by omega, hP, hDn.1, by omega, hnc, hn, hbl⟩)
  have HL := Lib.hid hl
  obtain ⟨w2, hw2⟩ : ∃ w2, w2 = (w.alloc (.cells #[.int .u32 (r0 : Int), .int .u32 (r1 : Int), .int .u32 (r2 : Int), .int .u32 (r3 : Int)] 49)).alloc (.cells #[.int .u32 0, .int .u32 0, .int .u32 0, .int .u32 0] 49) := ⟨_, rfl⟩
  have hb2 : Below w.heap.size w w2 := by rw [hw2]; exact ((Below.refl _ _).alloc (Nat.le_refl _) _).alloc (by simp) _
  have hq0 : Blk w2 w.heap.size 49 #[.int .u32 (r0 : Int), .int .u32 (r1 : Int), .int .u32 (r2 : Int), .int .u32 (r3 : Int)] := by rw [hw2]; exact (Blk.fresh w _ _).alloc _
  have hq1 : Blk w2 (w.heap.size + 1) 49 zero4 := by
    rw [hw2]
    have := Blk.fresh (w.alloc (.cells #[.int .u32 (r0 : Int), .int .u32 (r1 : Int), .int .u32 (r2 : Int), .int .u32 (r3 : Int)] 49)) 49 zero4
    have e : (w.alloc (.cells #[.int .u32 (r0 : Int), .int .u32 (r1 : Int), .int .u32 (r2 : Int), .int .u32 (r3 : Int)] 49)).heap.size = w.heap.size + 1 := by simp
    rw [e] at this
    exact this
  have hz2 : w2.heap.size = w.heap.size + 2 := by rw [hw2]; simp
  have HW2 := Lib.hid hw2
  have HB2 := Lib.hid (And.intro hb2 (And.intro hq1 hz2))
  have HS := Lib.hid hS
  have r0c : w2.cell? ⟨w.heap.size, 0, none⟩ = some (.int .u32 (r0 : Int)) := hq0.cell 0
  have r1c : w2.cell? ⟨w.heap.size, 1, none⟩ = some (.int .u32 (r1 : Int)) := hq0.cell 1
  have r2c : w2.cell? ⟨w.heap.size, 2, none⟩ = some (.int .u32 (r2 : Int)) := hq0.cell 2
  have r3c : w2.cell? ⟨w.heap.size, 3, none⟩ = some (.int .u32 (r3 : Int)) := hq0.cell 3
  clear hS hn hnc hc hd1 hd2 hl hbl hF hT hD hP hx1 hx2 hFn hTn hDn hw2 hb2 hq0 hq1 hz2
  go_enter Tryz.func48, Tryz.ntmps48
  go_upto_region 1 with fail
  rw [← HW2.out]
  clear HW2
  go_upto_region 5 with fail
  obtain ⟨m, hm⟩ : ∃ m, m = T - P := ⟨_, rfl⟩
  obtain ⟨c', hc'⟩ : ∃ c', c' = c - P := ⟨_, rfl⟩
  have HM := Lib.hid (And.intro hm hc')
  clear m1 m2 m3 m4 m5 m6 hc' e1
  go_cut [0] from 34 (fun v wx => (∃ A', v = .slice A' m c' ∧ Sl w A' m (bv ((bs.take T).drop P))) ∧ wx = w2)
  case first =>
    obtain ⟨h1, h2, h3, h4, h5, h6, h7, h8, h9⟩ := HH.out
    have i1 : (0 : Int) ≤ (P : Int) := by omega
    have i2 : (P : Int) ≤ (T : Int) := by omega
    have i3 : (T : Int) ≤ (c : Int) := by omega
    have hcut := ((HS.out.cut (k := P) (cap := c) (by omega) h7).first (k := m) (by omega))
    have e2 : ((bv bs).drop P).take m = bv ((bs.take T).drop P) := by
      rw [← bv_drop, ← bv_take, List.drop_take, hm]
    rw [e2] at hcut
    have HCUT := Lib.hid hcut
    have hmN : ((T : Int) - (P : Int)).toNat = m := by omega
    clear h1 h2 h3 h4 h5 h6 h7 h8 h9 hcut e2
    by_cases hcp : c = P
    · subst hcp
      have hm0 : m = 0 := by omega
      have HC0 := Lib.hid (show ∀ X, Sl w X m (bv ((bs.take T).drop c)) from fun X => ⟨HCUT.out.1, fun h => absurd h (by omega)⟩)
      clear hm0
      go_wp2_with fail
      go_meet
      exact ⟨⟨_, by rw [HM.out.1, HM.out.2, Nat.sub_self], HC0.out _⟩, rfl⟩
    · have hck2 : ¬ (c : Int) = (P : Int) := by omega
      go_wp2_with fail
      go_meet
      exact ⟨⟨_, by rw [HM.out.1, HM.out.2], by have := HCUT.out; rwa [if_neg hcp] at this⟩, rfl⟩
  case rest =>
    obtain ⟨⟨A', rfl, hS'⟩, hwc⟩ := hcut
    rw [hwc]
    clear hwc hm
    obtain ⟨hb2, hq1, hz2⟩ := HB2.out
    obtain ⟨h1, h2, h3, h4, h5, h6, h7, h8, h9⟩ := HH.out
    obtain ⟨b', hb'⟩ : ∃ b', b' = (bs.take T).drop P := ⟨_, rfl⟩
    rw [← hb'] at hS'
    obtain ⟨a0, ha0⟩ : ∃ a0, a0 = F - P := ⟨_, rfl⟩
    have e3 : wrap64 ((F : Int) - (P : Int)) = (a0 : Int) := by rw [IntWalk.wrap64_in _ (by omega)]; omega
    obtain ⟨g, hg⟩ : ∃ g, g = w2.heap.size := ⟨_, rfl⟩
    obtain ⟨q1, hq⟩ : ∃ q1, q1 = w.heap.size + 1 := ⟨_, rfl⟩
    obtain ⟨w3, hw3⟩ : ∃ w3, w3 = w2.alloc (.cells #[.slice A' m c', .int .i64 (a0 : Int), .int .i64 (D : Int), .int .u32 (r0 : Int), .int .u32 (r1 : Int), .int .u32 (r2 : Int), .int .u32 (r3 : Int), .slice A' m c', .slice none 0 0, .slice none 0 0] 120) := ⟨_, rfl⟩
    have hS2 : Sl w2 A' m (bv b') := hS'.below hb2
    have hB3 : Blk w3 g 120 (fCells A' m c' D ⟨a0, r0, r1, r2, r3⟩ (.slice none 0 0) (.slice none 0 0)) := by rw [hw3, hg]; exact Blk.fresh w2 _ _
    have hz3 : w3.heap.size = w2.heap.size + 1 := by rw [hw3]; simp
    have hal : 0 < m → ∀ p o, A' = some ⟨p, o, none⟩ → p < w.heap.size := fun h0 p o e => by
      obtain ⟨b', o', e', hlt, _⟩ := hS'.2 h0
      rw [e] at e'
      injection e' with e'
      injection e' with e'
      omega
    have hfl : Fl w w3 g q1 (fun i => i = g) A' m c' D b' ⟨a0, r0, r1, r2, r3⟩ 0 [] none 0 := by
      refine ⟨.inl ⟨⟨⟨hB3, by rw [hw3]; exact hS2.alloc _, by have := HM.out.1; omega, by show a0 ≤ m; have := HM.out.1; omega, h5, h6, ⟨HL.out.r0, HL.out.r1, HL.out.r2, HL.out.r3⟩⟩, rfl, fun i hi => by omega, fun h0 p o e e2 => by have := hal h0 p o e; omega⟩, rfl⟩, Nat.zero_le _, fun i hi => by omega, by rw [hw3]; exact hb2.alloc hb2.size _, ⟨rfl, .inl ⟨rfl, rfl⟩⟩, fun k e => (nomatch e), by rw [hw3, hq]; exact hq1.alloc _, by omega, by omega, hal⟩
    have HFL := Lib.hid hfl
    have HW3 := Lib.hid hw3
    have HPT := Lib.hid (show findF bs D T ⟨F, r0, r1, r2, r3⟩ = ((findF b' D m ⟨a0, r0, r1, r2, r3⟩).1, (findF b' D m ⟨a0, r0, r1, r2, r3⟩).2.far P) by
      have hT' : T = P + m := by have := HM.out.1; omega
      have hF' : (⟨F, r0, r1, r2, r3⟩ : Ps) = Ps.far ⟨a0, r0, r1, r2, r3⟩ P := by
        show _ = Ps.mk (P + a0) r0 r1 r2 r3
        rw [show P + a0 = F by omega]
      have hcg : ∀ j, j < m → b'.getD j 0 = bs.getD (P + j) 0 := fun j hj => by
        rw [hb']
        exact cut_get bs P T (by omega) j (by have := HM.out.1; omega)
      rw [hF']
      have hh := find_part (b := bs) (c := b') (dict := D) (p := P) (t := m) hcg (s := ⟨a0, r0, r1, r2, r3⟩) (by show a0 ≤ m; have := HM.out.1; omega) (by show P = 0 ∨ D ≤ a0; omega)
      rwa [← hT'] at hh)
    have HMM := Lib.hid (show a0 ≤ m ∧ m ≤ 1000000000 ∧ m ≤ T from ⟨by have := HM.out.1; omega, by have := HM.out.1; omega, by have := HM.out.1; omega⟩)
    have HG := Lib.hid hg
    rw [← hq]
    clear hb2 hq1 hz2 h1 h2 h3 h4 h5 h6 h7 h8 h9 hb' ha0 hg hq hS' hS2 hB3 hz3 hal hfl hw3 HB2 HS
    go_upto_region 7 with fail
    rw [← HW3.out, ← HG.out]
    clear HW3 HG e3 r0c r1c r2c r3c
    obtain ⟨s0, hs0⟩ : ∃ s0 : Ps, s0 = ⟨a0, r0, r1, r2, r3⟩ := ⟨_, rfl⟩
    rw [← hs0] at HFL HPT
    have HS0 := Lib.hid (show s0.i ≤ m by rw [hs0]; exact HMM.out.1)
    clear hs0
    go_wp2_with fail
    go_loopw [14] (fun v wr => ∃ (j : Nat) (G' : Nat → Prop) (cnt : Nat) (R : Option Addr) (cl : Nat), v = .slice R (goF b' D m s0 j).1.length cl ∧ Fl w wr g q1 G' A' m c' D b' (goF b' D m s0 j).2 cnt (goF b' D m s0 j).1 R cl) (fun _ wr => m - (intOf ((wr.cell? ⟨g, 1, none⟩).getD undef)).toNat)
    case atStart => exact ⟨0, fun i => i = g, 0, none, 0, rfl, HFL.out⟩
    case round =>
      obtain ⟨j, G', cnt, R, cl, rfl, hfl⟩ := hrel
      have c1 : wr.cell? ⟨g, 1, none⟩ = some (.int .i64 ((goF b' D m s0 j).2.i : Int)) := by obtain ⟨_, _, hq⟩ := hfl.fd.fq; exact hq.c1
      have hlen := go_len (b := b') (dict := D) (e := m) (s := s0) j
      have HSU := Lib.hid (fun h => go_succ (b := b') (dict := D) (e := m) (s := s0) (n := j) h)
      have HFI := Lib.hid (fun h => find_is (b := b') (dict := D) (e := m) (s := s0) (n := j) h)
      have HGE := Lib.hid (go_end (b := b') (dict := D) (e := m) (s := s0) HS0.out j)
      obtain ⟨X, hX⟩ : ∃ X, X = goF b' D m s0 j := ⟨_, rfl⟩
      rw [← hX] at hfl c1 hlen HSU HFI HGE ⊢
      obtain ⟨L, s⟩ := X
      have HX := Lib.hid hX
      have HFL := Lib.hid (show Fl w wr g q1 G' A' m c' D b' s cnt L R cl from hfl)
      have c1 : wr.cell? ⟨g, 1, none⟩ = some (.int .i64 (s.i : Int)) := c1
      have hlen : L.length ≤ j := hlen
      clear hX
      by_cases hlt : s.i < m
      · have i1 : (s.i : Int) < (m : Int) := by omega
        have KP := Lib.hid (ppacket_any HFL.out.fd HFL.out.cn hlt)
        have HLT := Lib.hid (show s.i < m ∧ L.length ≤ j from ⟨hlt, hlen⟩)
        have HC1 := Lib.hid c1
        clear hfl hlen hlt
        go_wp2_with fail
        refine KP.out.mono ?_
        rintro x w5 ⟨p, s', s1, k, hst, hs', hsi, rfl, hfp⟩
        obtain ⟨G5, cnt5, hfl5⟩ := HFL.out.pkt hfp
        have HF5 := Lib.hid hfl5
        have HST := Lib.hid (And.intro hst (And.intro hs' hsi))
        clear KP hst hs' hsi hfp hfl5 c1
        go_upto_region 10 with fail
        have hkb := Blk.fresh w5 59 #[.int .i64 p.k, .int .u8 p.a, .int .i64 p.n, .int .u32 p.v]
        have HF7 := Lib.hid (HF5.out.same ((Only.refl (fun _ => False) w5).alloc (.cells #[.int .i64 p.k, .int .u8 p.a, .int .i64 p.n, .int .u32 p.v] 59)))
        clear HF5
        generalize w5.alloc (.cells #[.int .i64 p.k, .int .u8 p.a, .int .i64 p.n, .int .u32 p.v] 59) = w7 at *
        generalize w5.heap.size = y at *
        have l0 : w7.cell? ⟨y, 0, none⟩ = some (.int .i64 p.k) := hkb.cell 0
        have l1 : w7.cell? ⟨y, 1, none⟩ = some (.int .u8 p.a) := hkb.cell 1
        have l2 : w7.cell? ⟨y, 2, none⟩ = some (.int .i64 p.n) := hkb.cell 2
        have l3 : w7.cell? ⟨y, 3, none⟩ = some (.int .u32 p.v) := hkb.cell 3
        have HF8 := Lib.hid (HF7.out.same ((Only.refl (fun _ => False) w7).alloc (.cells #[.int .i64 p.k, .int .u8 p.a, .int .i64 p.n, .int .u32 p.v] 59)))
        obtain ⟨ip, hip, hpz, hps, hpb⟩ := info_parts info_ppk
        have HLE := Lib.hid (show L.length + 1 ≤ 1000000001 from by
          have h1 := HSU.out HLT.out.1
          have h2 := go_more (b := b') (dict := D) (e := m) (s := s0) j (by rw [← HX.out]; exact HLT.out.1)
          rw [← HX.out] at h2
          have h2 : s0.i + j ≤ s.i := h2
          have := HLT.out
          have := HMM.out
          omega)
        clear hkb HF7
        go_wp2_with (at_builtin; refine wpList_append_lies _ rfl (.tmp 60) (.tmp 62) 47 rfl w.heap.size 59 ip _ 4 32 Tryz.underlying47 hip hpz hps hpb (by rfl) (by decide) (.slice R L.length cl) L.length (L.flatMap pkV) rfl HF8.out.row ⟨w7.heap.size, 0, none⟩ 1 1 (pkV p) rfl rfl (ppk_news w7 p _) (ppkV_one p) (by decide) (by have := HLE.out; unfold maxLen; omega) (by have := HLE.out; omega) HF8.out.bel.size _ rfl ?_)
        intro x9 cap9 w9 ho9 hg9 hl9 _
        have hf9 := HF8.out.app ho9 hg9 (hl9.imp id (fun h => by simpa using h))
        have hki : s1.i + k ≤ m := by
          obtain ⟨hst, hs', hsi⟩ := HST.out
          have := (step_i (b := b') (dict := D) (e := m) (s := s) HLT.out.1).2
          rw [hst, hs'] at this
          have : s.i + k ≤ m := this
          omega
        obtain ⟨d1, d2, hf10⟩ := hf9.at_ k hki
        have hsi := HST.out.2.2
        rw [hsi] at d1 hf10
        have es : ({ s1 with i := s.i + k } : Ps) = s' := HST.out.2.1.symm
        rw [es] at hf10
        have HF10 := Lib.hid hf10
        have e5 : wrap64 ((s.i : Int) + (k : Int)) = ((s.i + k : Nat) : Int) := by rw [IntWalk.wrap64_in _ (by have := HMM.out; rw [hsi] at hki; omega)]; omega
        have hsm : s.i < s'.i := by
          have := (step_i (b := b') (dict := D) (e := m) (s := s) HLT.out.1).1
          rw [HST.out.1] at this
          exact this
        have HGO := Lib.hid (show goF b' D m s0 (j + 1) = (L ++ [p], s') by
          have := HSU.out HLT.out.1
          rw [this]
          show (L ++ [(stepF b' D m s).1], (stepF b' D m s).2) = _
          rw [HST.out.1])
        have HMS := Lib.hid (show s.i < s'.i ∧ s'.i ≤ m from ⟨hsm, by rw [← es]; show s.i + k ≤ m; rw [hsi] at hki; exact hki⟩)
        have hii : s'.i = s.i + k := by rw [← es]
        have HII := Lib.hid hii
        clear ho9 hg9 hl9 hf9 hki hf10 hsi es hsm hii HF8 l0 l1 l2 l3 hip hpz hps hpb HFL HSU HFI HGE HST
        go_wp2_with fail
        have c11 : (w9.setCell ⟨g, 1, none⟩ (.int .i64 ((s.i + k : Nat) : Int))).cell? ⟨g, 1, none⟩ = some (.int .i64 (s'.i : Int)) := by
          obtain ⟨_, _, hq⟩ := HF10.out.fd.fq
          exact hq.c1
        have HC11 := Lib.hid c11
        clear c11 d1 d2 e5
        go_roundw
        case rel => exact ⟨j + 1, G5, cnt5, some ⟨x9, 0, none⟩, cap9, by rw [HGO.out]; simp, by rw [HGO.out]; first | exact HF10.out | (have := HF10.out; simpa using this)⟩
        case measure =>
          have h1 := HC11.out
          have h2 := HC1.out
          have h3 := HMS.out
          simp only [Int.natCast_add] at h1
          rw [h2]
          first | rw [h1] | (rw [HC11.out])
          simp [intOf]
          omega
      · have i1 : ¬ (s.i : Int) < (m : Int) := by omega
        obtain ⟨lv, av, hfq⟩ := HFL.out.fd.fq
        have c3 := hfq.c3
        have c4 := hfq.c4
        have c5 := hfq.c5
        have c6 := hfq.c6
        have hqb := HFL.out.qb
        have z0 : wr.cell? ⟨q1, 0, none⟩ = some (.int .u32 0) := hqb.cell 0
        have z1 : wr.cell? ⟨q1, 1, none⟩ = some (.int .u32 0) := hqb.cell 1
        have z2 : wr.cell? ⟨q1, 2, none⟩ = some (.int .u32 0) := hqb.cell 2
        have z3 : wr.cell? ⟨q1, 3, none⟩ = some (.int .u32 0) := hqb.cell 3
        have f0 := hqb.free 0
        have f1 := hqb.free 1
        have f2 := hqb.free 2
        have f3 := hqb.free 3
        obtain ⟨wz, hwz⟩ : ∃ wz, wz = (((wr.setCell ⟨q1, 0, none⟩ (.int .u32 (s.r0 : Int))).setCell ⟨q1, 1, none⟩ (.int .u32 (s.r1 : Int))).setCell ⟨q1, 2, none⟩ (.int .u32 (s.r2 : Int))).setCell ⟨q1, 3, none⟩ (.int .u32 (s.r3 : Int)) := ⟨_, rfl⟩
        have hbz : Blk wz q1 49 #[.int .u32 (s.r0 : Int), .int .u32 (s.r1 : Int), .int .u32 (s.r2 : Int), .int .u32 (s.r3 : Int)] := by
          rw [hwz]
          exact (((hqb.put 0 (.int .u32 (s.r0 : Int))).put 1 (.int .u32 (s.r1 : Int))).put 2 (.int .u32 (s.r2 : Int))).put 3 (.int .u32 (s.r3 : Int))
        have hOz : Only (fun i => i = q1) wr wz := by
          rw [hwz]
          exact ((((Only.refl (fun i => i = q1) wr).setCell (p := ⟨q1, 0, none⟩) (.inl rfl) _).setCell (p := ⟨q1, 1, none⟩) (.inl rfl) _).setCell (p := ⟨q1, 2, none⟩) (.inl rfl) _).setCell (p := ⟨q1, 3, none⟩) (.inl rfl) _
        have HBZ := Lib.hid hbz
        have HOZ := Lib.hid hOz
        have HLI := Lib.hid hfq.lit
        have HWZ := Lib.hid hwz
        have HFF := Lib.hid (show findF b' D m s0 = (L, s) ∧ L.length ≤ T from by
          refine ⟨HFI.out (by show m ≤ s.i; omega), ?_⟩
          by_cases hj : j ≤ m
          · have := HMM.out; omega
          · have hne : ¬ (goF b' D m s0 m).2.i < m := fun h => by have := go_more m h; omega
            have h1 := go_stop (b := b') (dict := D) (e := m) (s := s0) (n := m) (by omega) (j - m)
            rw [show m + (j - m) = j by omega, ← HX.out] at h1
            have h2 := go_len (b := b') (dict := D) (e := m) (s := s0) m
            rw [← h1] at h2
            have : L.length ≤ m := h2
            have := HMM.out
            omega)
        clear hfq hqb hwz hbz hOz hfl hlen hlt HSU HFI HGE
        go_wp2_with fail
        go_region
        all_goals
          go_wp2_with fail
          rw [← HWZ.out]
          have k0 : wz.cell? ⟨q1, 0, none⟩ = some (.int .u32 (s.r0 : Int)) := HBZ.out.cell 0
          have k1 : wz.cell? ⟨q1, 1, none⟩ = some (.int .u32 (s.r1 : Int)) := HBZ.out.cell 1
          have k2 : wz.cell? ⟨q1, 2, none⟩ = some (.int .u32 (s.r2 : Int)) := HBZ.out.cell 2
          have k3 : wz.cell? ⟨q1, 3, none⟩ = some (.int .u32 (s.r3 : Int)) := HBZ.out.cell 3
          have hqw := HFL.out.qw
          have hrow := pown4_only HFL.out.row HOZ.out (fun k e => (HFL.out.ra k e).2)
          have hbel := HFL.out.bel.trans (HOZ.out.below HFL.out.bel.size (by rintro i rfl; exact hqw))
          refine bodyPost_ret (v := .tuple #[.slice R L.length cl, .agg #[.int .u32 (s.r0 : Int), .int .u32 (s.r1 : Int), .int .u32 (s.r2 : Int), .int .u32 (s.r3 : Int)]]) (by simp [results, Tryz.results48, go_sem, k0, k1, k2, k3]) rfl ⟨below_drewN hbel 1, L, s.far P, R, cl, ?_, ⟨HLI.out.r0, HLI.out.r1, HLI.out.r2, HLI.out.r3⟩, HFF.out.2, rfl, hrow⟩
          rw [HPT.out, HFF.out.1]
end
end Go.Proofs.YtoencondpbkomaaGreat

/-
  The coder of LZMA2: a piece's stream.
-/
namespace Go.Proofs.YtoencondpbkomaaGreat
open Go.RowKit

/-- what the block's fields say -/
theorem Kst.fs {Q : Kq} {K : Koc} {w : World} {Ge : Option Nat} {A : Option Addr} {c F m : Nat} {k : Ckn} {Ao : Option Addr} {co : Nat} (h : Kst Q K w Ge A c F k m Ao co) :
    w.cell? ⟨Q.kg, 0, none⟩ = some (.slice Q.A Q.n Q.c) ∧ w.cell? ⟨Q.kg, 1, none⟩ = some (.int .i64 (F : Int)) ∧ w.cell? ⟨Q.kg, 2, none⟩ = some (.int .i64 (Q.lc : Int)) ∧ w.cell? ⟨Q.kg, 3, none⟩ = some (.int .i64 (Q.lp : Int)) ∧ w.cell? ⟨Q.kg, 4, none⟩ = some (.int .i64 (Q.pb : Int)) ∧ w.cell? ⟨Q.kg, 5, none⟩ = some (.int .i64 (Q.dict : Int)) ∧ w.cell? ⟨Q.kg, 6, none⟩ = some (.pointer (some ⟨K.g, 0, none⟩)) ∧ w.cell? ⟨Q.kg, 7, none⟩ = some (.int .i64 (k.how : Int)) :=
  ⟨h.blk.cell 0, h.blk.cell 1, h.blk.cell 2, h.blk.cell 3, h.blk.cell 4, h.blk.cell 5, h.blk.cell 6, h.blk.cell 7⟩

section
variable {Q : Kq} {w : World} {F T m how at_ : Nat} {s : Lzs × Pm En} {out : List UInt8} {G : Nat → Prop} {b : List UInt8}
/-- A piece's packets, coded, and the stream's bytes: from behind Reset on. -/
structure StrIn (Q : Kq) (b : List UInt8) (F T : Nat) : Prop where
  set : SetOk Q.lc Q.lp Q.pb Q.dict
  four : Q.lc + Q.lp ≤ 4
  len : b.length = Q.n
  most : Q.n ≤ 65536
  nc : Q.n ≤ Q.c
  cap : Q.c ≤ maxLen
  ft : F ≤ T
  tn : T ≤ Q.n

/-- .. of the first way: Reset -/
theorem kreset_any (h : Kwn Q w at_ ⟨how, s, out⟩ m G) (hq : StrIn Q b F T) (hc : Cmd b Q.dict (1847 + 768 * 2 ^ (Q.lc + Q.lp)) F s) (hs : s.1.lc = Q.lc ∧ s.1.lp = Q.lp ∧ s.1.pb = Q.pb) :
    ∃ K, w.cell? ⟨Q.kg, 6, none⟩ = some (.pointer (some ⟨K, 0, none⟩)) ∧ ∀ W, Only (fun _ => False) w W → Calls Tryz.prog 26 #[.pointer (some ⟨K, 0, none⟩), .agg #[.int .i64 (Q.lc : Int), .int .i64 (Q.lp : Int), .int .i64 (Q.pb : Int), .int .i64 (Q.dict : Int)]] W
      (OwnPost (fun w G => Kwn Q w at_ ⟨how, reS s, out⟩ m G) W G (.tuple #[])) := by
  obtain ⟨K, Ge, A, c, Ao, co, hk, hG⟩ := h
  refine ⟨K.g, hk.fs.2.2.2.2.2.2.1, fun W hW => ?_⟩
  have hk' := hk.only hW (fun _ _ h => h)
  exact (canew_any hk'.cw hq.set (by have := hq.four; omega) hk.nl hs.1 hs.2.1 hs.2.2 hc.par.dict).mono fun e w' hp => hk'.re hG hp

set_option maxRecDepth 100000 in
set_option maxHeartbeats 16000000 in
theorem kstream_any {n : Nat} (h : Kwn Q w at_ ⟨how, s, out⟩ m G) (hq : StrIn Q b F T) (hn : F = min at_ Q.n ∧ T = min (at_ + n) Q.n ∧ at_ + n ≤ 1000000000) (hc : Cmd b Q.dict (1847 + 768 * 2 ^ (Q.lc + Q.lp)) F s) (hs : s.1.lc = Q.lc ∧ s.1.lp = Q.lp ∧ s.1.pb = Q.pb) (hS : Sl w Q.A Q.n (bv b)) (ha : Apt Q.A G) :
    Calls Tryz.prog 28 #[.pointer (some ⟨Q.kg, 0, none⟩), .int .i64 (n : Int)] w (StrPost Q w (at_ + n) how (strS b Q.dict F T how s) out 0 G) := by
  have hpre : Cmd b Q.dict (1847 + 768 * 2 ^ (Q.lc + Q.lp)) F (preS how s) := hc.pre
  have hsp : (preS how s).1.lc = Q.lc ∧ (preS how s).1.lp = Q.lp ∧ (preS how s).1.pb = Q.pb := by unfold preS; split <;> exact hs
  have HIN := Lib.hid (And.intro hq (And.intro hn (And.intro hpre hsp)))
  have HK := Lib.hid h
  have HSL := Lib.hid (And.intro hS ha)
  obtain ⟨K1, c6, KR⟩ := kreset_any h hq hc hs
  have KRR := Lib.hid KR
  clear KR
  have hc7 := (h.hows 0).1
  have c7 : w.cell? ⟨Q.kg, 7, none⟩ = some (.int .i64 (how : Int)) := hc7
  have hfs : w.cell? ⟨Q.kg, 2, none⟩ = some (.int .i64 (Q.lc : Int)) ∧ w.cell? ⟨Q.kg, 3, none⟩ = some (.int .i64 (Q.lp : Int)) ∧ w.cell? ⟨Q.kg, 4, none⟩ = some (.int .i64 (Q.pb : Int)) ∧ w.cell? ⟨Q.kg, 5, none⟩ = some (.int .i64 (Q.dict : Int)) := by
    obtain ⟨K, Ge, A, c, Ao, co, hk, hG⟩ := h
    obtain ⟨_, _, f2, f3, f4, f5, _, _⟩ := hk.fs
    exact ⟨f2, f3, f4, f5⟩
  obtain ⟨f2, f3, f4, f5⟩ := hfs
  clear hpre hsp hq hn h hS ha hc hs hc7
  unfold strS
  obtain ⟨s0, hs0⟩ : ∃ s0, s0 = preS how s := ⟨_, rfl⟩
  rw [← hs0] at HIN ⊢
  have HS0 := Lib.hid hs0
  clear hs0
  go_enter Tryz.func28, Tryz.ntmps28
  go_upto_if 13 with fail
  go_cut [] from 13 to 22 (fun wx => ∃ G1, Kwn Q wx at_ ⟨how, s0, out⟩ m G1 ∧ Stp w G wx G1)
  case first =>
    by_cases h0 : how = 0
    · have g0 : (how : Int) = 0 := by omega
      have g1 : ((how : Int) != 0) = false := by rw [g0]; rfl
      go_wp2_with fail
      go_meet
      refine ⟨G, ?_, Stp.refl w G⟩
      rw [HS0.out]
      unfold preS
      rw [if_pos h0]
      exact HK.out
    · have g0 : ¬ (how : Int) = 0 := by omega
      have g1 : ((how : Int) != 0) = true := bne_iff_ne.2 g0
      have HR0 := Lib.hid (Only.refl (fun _ => False) w)
      go_wp2_with fail
      go_region_law (first
        | (go_simp; go_at_call 26; refine (KRR.out _ (by first | exact HR0.out | exact HR0.out.drewN _ | exact HR0.out.drew)).mono ?_; rintro e w3 ⟨rfl, G3, k3, n3, o3⟩; have HP := Lib.hid (show Kwn Q w3 at_ ⟨how, reS s, out⟩ m G3 ∧ Stp w G w3 G3 from ⟨k3, n3, by first | exact o3 | exact o3.of_drew | exact o3.of_drewN⟩); clear k3 n3 o3))
      all_goals
        go_wp2_with fail
        go_meet
        refine ⟨G3, ?_, HP.out.2⟩
        rw [HS0.out]
        unfold preS
        rw [if_neg h0]
        exact HP.out.1
  case rest =>
    obtain ⟨G1, k1, s1⟩ := hcut
    generalize wc = w1 at *
    obtain ⟨K, Ge, A, cA, Ao, co, hk, hG⟩ := k1
    obtain ⟨d0, d1, d2, d3, d4, d5, d6, d7⟩ := hk.fs
    have HK1 := Lib.hid (And.intro hk hG)
    have HS1 := Lib.hid s1
    have hSw : Sl w1 Q.A Q.n (bv b) := s1.sl HSL.out.1 HSL.out.2
    have KRP := Lib.hid (fun (W : World) (hW : Only (fun _ => False) w1 W) => creps_any (hk.only hW (fun _ _ h => h)).cw)
    obtain ⟨Lq, hLq⟩ : ∃ L, L = findS b Q.dict F T s0.1 := ⟨_, rfl⟩
    have KFP : ∀ W, Only (fun _ => False) w1 W → Calls Tryz.prog 48 #[.slice Q.A Q.n Q.c, .int .i64 (at_ : Int), .int .i64 ((at_ + n : Nat) : Int), .int .i64 (Q.dict : Int), .agg #[.int .u32 (s0.1.r0 : Int), .int .u32 (s0.1.r1 : Int), .int .u32 (s0.1.r2 : Int), .int .u32 (s0.1.r3 : Int)]] W
        (fun e w' => Only (fun _ => False) W w' ∧ ∃ R cl, ∃ a0 a1 a2 a3 : Nat, e = .returned (.tuple #[.slice R Lq.length cl, .agg #[.int .u32 (a0 : Int), .int .u32 (a1 : Int), .int .u32 (a2 : Int), .int .u32 (a3 : Int)]]) ∧ (∀ q o, R = some ⟨q, o, none⟩ → w1.heap.size ≤ q) ∧ ∀ W', Only (fun i => i < W.heap.size) w' W' → Pkts W' R Lq.length (fun i => Lq.getD i ⟨0, 0, 0, 0⟩)) := by
      intro W hW
      obtain ⟨⟨q1, q2, q3, q4, q5, q6, q7, q8⟩, q9, q10, q11⟩ := HIN.out
      have hz := q10.near
      have hd := q1
      have KF := pfind_any (w := W) (A := Q.A) (n := Q.n) (c := Q.c) (bs := b) (fi := (at_ : Int)) (ti := ((at_ + n : Nat) : Int)) (di := (Q.dict : Int)) (r0 := s0.1.r0) (r1 := s0.1.r1) (r2 := s0.1.r2) (r3 := s0.1.r3) (hSw.below (hW.below (Nat.le_refl _) (fun _ h => h.elim))) (by omega) q5 q6 (by omega) (by have := hd.2.2.2.2; omega) ⟨hz.r0, hz.r1, hz.r2, hz.r3⟩
      have hF : fromN Q.n (at_ : Int) = F := by unfold fromN; omega
      have hT : toN Q.n F ((at_ + n : Nat) : Int) = T := by unfold toN; omega
      have hD : dictI (Q.dict : Int) = Q.dict := by unfold dictI; have := hd.2.2.2.1; omega
      rw [hF, hT, hD] at KF
      refine KF.mono ?_
      rintro x w' ⟨hb, L, s', R, cl, hf, hlit, hlen, rfl, hrow⟩
      have hL : L = Lq := by
        rw [hLq]
        show L = (findF b Q.dict T ⟨F, s0.1.r0, s0.1.r1, s0.1.r2, s0.1.r3⟩).1
        rw [hf]
      subst hL
      have hgb : ∀ q o, R = some ⟨q, o, none⟩ → W.heap.size ≤ q := by
        intro q o e'
        rcases hrow.2 with ⟨e, e0⟩ | ⟨g', cap, cur, e, hb', _⟩
        · rw [e'] at e
          injection e with e
          exact (nomatch e)
        · rw [e'] at e
          injection e with e
          injection e with e
          injection e with e
          omega
      refine ⟨Only.of_below hb, R, cl, _, _, _, _, rfl, fun q o e => Nat.le_trans hW.size (hgb q o e), fun W' hW' hm => ?_⟩
      obtain ⟨b', o', e', hlt', hc'⟩ := (pkts_row hrow).2 hm
      have hge : W.heap.size ≤ b' := hgb b' o' e'
      have hbk := hW'.block b' hlt' (by omega)
      refine ⟨b', o', e', Nat.lt_of_lt_of_le hlt' hW'.size, fun i hi => ?_⟩
      obtain ⟨r1, r2, r3, r4⟩ := hc' i hi
      exact ⟨(World.cell?_of_block hbk).trans r1, (World.cell?_of_block hbk).trans r2, (World.cell?_of_block hbk).trans r3, (World.cell?_of_block hbk).trans r4⟩
    obtain ⟨ta, hta⟩ : ∃ ta, ta = at_ + n := ⟨_, rfl⟩
    rw [← hta] at KFP
    have HTA := Lib.hid hta
    have KFQ := Lib.hid KFP
    have HLQ := Lib.hid hLq
    clear KFP hLq
    have HSW := Lib.hid hSw
    have HLT := Lib.hid (show Q.kg < w1.heap.size from hk.blk.lt)
    have e1 : IntKind.i64.wrap ((at_ : Int) + (n : Int)) = (ta : Int) := by
      obtain ⟨⟨q1, q2, q3, q4, q5, q6, q7, q8⟩, q9, q10, q11⟩ := HIN.out
      rw [IntWalk.i64_in _ (by omega)]
      omega
    clear hta
    have HQB := Lib.hid (fun (W : World) (hW : Only (fun _ => False) w1 W) => (hk.only hW (fun _ _ h => h)).fs)
    clear hk hG s1 hSw c6 c7 f2 f3 f4 f5 d2 d3 d4 d7
    go_upto_region 3 with fail
    go_cut [5, 6] from 23 to 50 (fun v u wx => ∃ R cl, v = .slice R Lq.length cl ∧ (∀ q o, R = some ⟨q, o, none⟩ → w1.heap.size ≤ q) ∧ Pkts wx R Lq.length (fun i => Lq.getD i ⟨0, 0, 0, 0⟩) ∧ Only (fun _ => False) w1 wx)
    case first =>
      have HR0 := Lib.hid (Only.refl (fun _ => False) w1)
      have HD0 := Lib.hid (And.intro d0 (And.intro d1 (And.intro d5 d6)))
      go_wp2_with fail
      go_region_held3 (fun W => W.cell? ⟨Q.kg, 0, none⟩ = some (.slice Q.A Q.n Q.c) ∧ W.cell? ⟨Q.kg, 1, none⟩ = some (.int .i64 (at_ : Int)) ∧ W.cell? ⟨Q.kg, 5, none⟩ = some (.int .i64 (Q.dict : Int)) ∧ W.cell? ⟨Q.kg, 6, none⟩ = some (.pointer (some ⟨K.g, 0, none⟩)))
        (first | assumption | go_keep | exact HD0.out | exact ⟨(HQB.out _ HOA.out).1, (HQB.out _ HOA.out).2.1, (HQB.out _ HOA.out).2.2.2.2.2.1, (HQB.out _ HOA.out).2.2.2.2.2.2.1⟩ | exact ⟨(HQB.out _ HOB.out).1, (HQB.out _ HOB.out).2.1, (HQB.out _ HOB.out).2.2.2.2.2.1, (HQB.out _ HOB.out).2.2.2.2.2.2.1⟩ | exact ⟨(HQB.out _ (HOB.out.alloc _)).1, (HQB.out _ (HOB.out.alloc _)).2.1, (HQB.out _ (HOB.out.alloc _)).2.2.2.2.2.1, (HQB.out _ (HOB.out.alloc _)).2.2.2.2.2.2.1⟩)
        (first
          | (go_at_call 48; refine (KFQ.out _ (by first | exact HOA.out | exact HOA.out.alloc _ | exact (HOA.out.alloc _).drew | exact (HOA.out.alloc _).drewN _ | exact HOA.out.drewN _ | exact HOA.out.drew)).mono ?_; rintro x wb ⟨hob, R, cl, a0, a1, a2, a3, rfl, hrb, hpk⟩; have HPK := Lib.hid (And.intro hrb hpk); clear hrb; have HOB := Lib.hid (show Only (fun _ => False) w1 wb from by first | exact HOA.out.trans hob | exact HOA.out.trans hob.of_drew | exact (HOA.out.alloc _).trans hob | exact (HOA.out.alloc _).trans hob.of_drew | exact (HOA.out.alloc _).trans hob.of_drewN); first | (have hbx : Blk wb wa.heap.size 49 #[.int .u32 0, .int .u32 0, .int .u32 0, .int .u32 0] := (Blk.only (S := fun _ => False) (Blk.fresh wa _ _) (by first | exact hob | exact hob.of_drew | exact hob.of_drewN) (fun h => h)); have z0 := hbx.cell 0; have z1 := hbx.cell 1; have z2 := hbx.cell 2; have z3 := hbx.cell 3; have y0 := hbx.free 0; have y1 := hbx.free 1; have y2 := hbx.free 2; have y3 := hbx.free 3; have hne : ¬ wa.heap.size = Q.kg := (by have := HOA.out.size; have := HLT.out; omega); have hne2 : ¬ Q.kg = wa.heap.size := (fun e => hne e.symm); have HZZ := Lib.hid (show w1.heap.size ≤ wa.heap.size from HOA.out.size); clear hob hpk hbx) | (have hbx : Blk wb w1.heap.size 49 #[.int .u32 0, .int .u32 0, .int .u32 0, .int .u32 0] := (Blk.only (S := fun _ => False) HBA.out (by first | exact hob | exact hob.of_drew | exact hob.of_drewN) (fun h => h)); have z0 := hbx.cell 0; have z1 := hbx.cell 1; have z2 := hbx.cell 2; have z3 := hbx.cell 3; have y0 := hbx.free 0; have y1 := hbx.free 1; have y2 := hbx.free 2; have y3 := hbx.free 3; have hne : ¬ w1.heap.size = Q.kg := (by have := HLT.out; omega); have hne2 : ¬ Q.kg = w1.heap.size := (fun e => hne e.symm); clear hob hpk hbx) | (clear hob hpk))
          | (go_at_call 49; refine (KRP.out _ (by first | exact HR0.out | exact HR0.out.alloc _ | exact (HR0.out.alloc _).drew | exact (HR0.out.alloc _).drewN _ | exact HR0.out.drewN _ | exact HR0.out.drew)).mono ?_; rintro x wa ⟨rfl, hoa⟩; have HOA := Lib.hid (show Only (fun _ => False) w1 wa from by first | exact hoa | exact hoa.of_drew | exact (HR0.out.alloc _).trans hoa | exact (HR0.out.alloc _).trans hoa.of_drew | exact (HR0.out.alloc _).trans hoa.of_drewN | exact hoa.of_drewN); first | (have HBA := Lib.hid (show Blk wa w1.heap.size 49 #[.int .u32 0, .int .u32 0, .int .u32 0, .int .u32 0] from Blk.only (S := fun _ => False) (Blk.fresh w1 _ _) (by first | exact hoa | exact hoa.of_drew | exact hoa.of_drewN) (fun h => h))) | skip; clear hoa))
      all_goals
        clear KFQ KRP HQB d0 d1 d5 d6 HD0 HIN HK1 HS1 HSL HK
        go_wp2_with fail
        go_meet
      all_goals
        refine ⟨R, cl, rfl, HPK.out.1, ?_⟩
        first
          | exact ⟨HPK.out.2 _ ((Only.refl _ wb).alloc _), HOB.out.alloc _⟩
          | exact ⟨HPK.out.2 _ (four_set (Only.refl _ wb) (.inl HBA.out.lt)), four_set HOB.out (.inr (Nat.le_refl _))⟩
          | exact ⟨HPK.out.2 _ (four_set (Only.refl _ wb) (.inl (by simp))), four_set HOB.out (.inr HZZ.out)⟩
    case rest =>
      obtain ⟨R, cl, rfl, hrb, hpk, ho2⟩ := hcut
      generalize wc = w2 at *
      clear KFQ KRP HQB d0 d1 d5 d6 HSW HSL KRR HK HS0
      obtain ⟨⟨q1, q2, q3, q4, q5, q6, q7, q8⟩, q9, q10, q11⟩ := HIN.out
      obtain ⟨hall, hlen, hcmd, hfive, hend, hen, hlen9, hlc⟩ := str_all q10 q7 (by omega) (by omega) Lq HLQ.out
      have hk2 := (HK1.out.1.only ho2 (fun _ _ h => h)).again (m' := 27 * Lq.length) (q10.pm (by omega))
      have hap : Apt R G1 := fun q o e hg => by
        have := hrb q o e
        have hx : q < w1.heap.size := HK1.out.1.old ((HK1.out.2 q).1 hg)
        omega
      have HPK := Lib.hid (And.intro hpk hap)
      have HW2 := Lib.hid (show Kwn Q w2 at_ ⟨how, s0, out⟩ (27 * Lq.length) G1 from ⟨K, Ge, A, cA, Ao, co, hk2, HK1.out.2⟩)
      have HS2 := Lib.hid (HS1.out.quiet ho2)
      obtain ⟨q, hq⟩ : ∃ q : Nat → Pq, q = fun h => Lq.getD h ⟨0, 0, 0, 0⟩ := ⟨_, rfl⟩
      have hqv : ∀ h, Lq.getD h ⟨0, 0, 0, 0⟩ = q h := fun h => by rw [hq]
      have hrun : runL (findS b Q.dict F T s0.1) s0 = runT q s0 Lq.length := by
        rw [← HLQ.out, hq]
        rfl
      have hrunL : runL Lq s0 = runT q s0 Lq.length := by
        rw [hq]
        rfl
      rw [hrunL] at hcmd hfive hend hen hlen9
      have HRUN := Lib.hid hrun
      have HFIN := Lib.hid (And.intro hend hfive)
      simp only [hqv] at hall
      have HALL := Lib.hid hall
      have HPQ := Lib.hid (show Pkts w2 R Lq.length q ∧ Apt R G1 by rw [hq]; exact HPK.out)
      have HLL := Lib.hid (show Lq.length ≤ 65536 by omega)
      have HBL := Lib.hid (show b.length ≤ 65536 by omega)
      clear q1 q2 q3 q4 q5 q6 q7 q8 q9 q10 q11 hall hlen hcmd hfive hend hen hlen9 hlc hk2 hap hrb hpk ho2 HPK HK1 HS1 hq hqv hrun hrunL HLQ HLT K Ge A cA Ao co
      go_wp2_with fail
      go_loopw [53] (fun v wr => ∃ (h : Nat) (G2 : Nat → Prop), h ≤ Lq.length ∧ v = .int .i64 (h : Int) ∧ Kwn Q wr at_ ⟨how, runT q s0 h, out⟩ (27 * (Lq.length - h)) G2 ∧ Stp w2 G1 wr G2) (fun v _ => Lq.length - (intOf v).toNat)
      case atStart => exact ⟨0, G1, Nat.zero_le _, rfl, HW2.out, Stp.refl _ _⟩
      case round =>
        clear HW2
        obtain ⟨h, G2, hh, rfl, hkr, hst⟩ := hrel
        obtain ⟨K, Ge, A, cA, Ao, co, hk, hG⟩ := hkr
        by_cases hlt : h < Lq.length
        · obtain ⟨p1, p2, p3, p4, p5⟩ := HALL.out h hlt
          obtain ⟨bb, ob, hRb, hbb, hcb⟩ := (HPQ.out.1.only hst.on HPQ.out.2) (by omega)
          obtain ⟨l0, l1, l2, l3⟩ := hcb h hlt
          have hsuc : runT q s0 (h + 1) = stepP (runT q s0 h) (q h).pk := rfl
          obtain ⟨av, hav⟩ := Int.eq_ofNat_of_zero_le p1.a.1
          obtain ⟨vv, hvv⟩ := Int.eq_ofNat_of_zero_le p1.v.1
          have ha8 : av < 256 := by have := p1.a.2; omega
          have hv8 : vv < 4294967296 := by have := p1.v.2; omega
          have hpk : (q h).pk = ⟨(q h).k, vv, (q h).n, UInt8.ofNat av⟩ := by
            show (⟨(q h).k, (q h).v.toNat, (q h).n, UInt8.ofNat (q h).a.toNat⟩ : Pk) = _
            rw [hav, hvv, Int.toNat_natCast, Int.toNat_natCast]
          have hub : ((UInt8.ofNat av).toNat : Int) = (av : Int) := by rw [UInt8.toNat_ofNat']; omega
          rw [hvv, Int.toNat_natCast] at p2
          obtain ⟨kk, hkk⟩ : ∃ x, x = (q h).k := ⟨_, rfl⟩
          obtain ⟨nn, hnn⟩ : ∃ x, x = (q h).n := ⟨_, rfl⟩
          rw [← hkk] at l0 p2 hpk
          rw [← hnn] at l2 p2 hpk
          rw [hav] at l1
          rw [hvv] at l3
          have KC : ∀ W, Only (fun _ => False) wr W → Calls Tryz.prog 50 #[.pointer (some ⟨K.g, 0, none⟩), .agg #[.int .i64 kk, .int .u8 (av : Int), .int .i64 nn, .int .u32 (vv : Int)]] W
              (OwnPost (fun w G => Kwn Q w at_ ⟨how, runT q s0 (h + 1), out⟩ (27 * (Lq.length - (h + 1))) G) W G2 (.bool true)) := by
            intro W hW
            have hk' := hk.only hW (fun _ _ h => h)
            have hcw : Cw K W Ge A cA (runT q s0 h).1 (27 * (Lq.length - (h + 1)) + 27) (runT q s0 h).2 := by
              have := hk'.cw
              rw [show 27 * (Lq.length - (h + 1)) + 27 = 27 * (Lq.length - h) by omega]
              exact this
            have hnear : ZNear (runT q s0 h).1 (1847 + K.nl) b.length := by rw [hk.nl]; exact p3
            have KC := ccode_any (kd := kk) (len := nn) (d := vv) (b := UInt8.ofNat av) (N := b.length) hcw hnear (by have := HBL.out; omega) p4 hv8
            have hpair : ((runT q s0 h).1, (runT q s0 h).2) = runT q s0 h := rfl
            rw [hpair, ← hpk, ← hsuc, p2, hub] at KC
            exact KC.mono fun e w' hp => hk'.code (s' := runT q s0 (h + 1)) hG hp
          have KC := Lib.hid KC
          have HQT := Lib.hid (fun (W : World) (hW : Only (fun _ => False) wr W) => (hk.only hW (fun _ _ h => h)).fs.2.2.2.2.2.2.1)
          have d6 : wr.cell? ⟨Q.kg, 6, none⟩ = some (.pointer (some ⟨K.g, 0, none⟩)) := hk.fs.2.2.2.2.2.2.1
          have d6a : ∀ o, (wr.alloc o).cell? ⟨Q.kg, 6, none⟩ = some (.pointer (some ⟨K.g, 0, none⟩)) := fun o => HQT.out _ ((Only.refl _ wr).alloc o)
          have HST := Lib.hid hst
          have HLT := Lib.hid hlt
          have HR0 := Lib.hid (Only.refl (fun _ => False) wr)
          have i0 : (0 : Int) ≤ (h : Int) := by omega
          have i1 : (h : Int) < (Lq.length : Int) := by omega
          have e2 : IntKind.i64.wrap ((h : Int) + 1) = (h : Int) + 1 := IntWalk.i64_in _ (by have := HLL.out; omega)
          subst hRb
          clear p1 p2 p3 p4 p5 hcb hsuc hav hvv ha8 hv8 hpk hub hk hG hst hlt hh hbb hkk hnn
          go_upto_region 7 with fail
          have HBK := Lib.hid (Blk.fresh wr 59 #[.int .i64 kk, .int .u8 (av : Int), .int .i64 nn, .int .u32 (vv : Int)])
          have HOX := Lib.hid ((Only.refl (fun _ => False) wr).alloc (.cells #[.int .i64 kk, .int .u8 (av : Int), .int .i64 nn, .int .u32 (vv : Int)] 59))
          have o0 := HBK.out.cell 0
          have o1 := HBK.out.cell 1
          have o2 := HBK.out.cell 2
          have o3 := HBK.out.cell 3
          have d6b := d6a (.cells #[.int .i64 kk, .int .u8 (av : Int), .int .i64 nn, .int .u32 (vv : Int)] 59)
          generalize wr.heap.size = bx at *
          generalize wr.alloc (.cells #[.int .i64 kk, .int .u8 (av : Int), .int .i64 nn, .int .u32 (vv : Int)] 59) = wx at *
          go_wp2_with fail
          go_region_law (first
            | (go_simp; go_at_call 50; refine (KC.out _ (by first | exact HOX.out | exact HOX.out.drewN _ | exact HOX.out.drew)).mono ?_; rintro x w9 ⟨rfl, G3, k3, n3, o3⟩; have hs9 : Stp wr G2 w9 G3 := (Stp.quiet (Stp.refl wr G2) HOX.out).trans ⟨n3, by first | exact o3 | exact o3.of_drew | exact o3.of_drewN⟩; have HP := Lib.hid (And.intro k3 hs9); clear k3 n3 o3 hs9))
          all_goals
            clear KC HQT d6 d6a d6b o0 o1 o2 o3 HBK
            go_wp2_with fail
            go_roundw
            case rel => exact ⟨h + 1, G3, by have := HLT.out; omega, by go_num, HP.out.1, HST.out.trans HP.out.2⟩
            case measure => have := HLT.out; simp [intOf]; omega
        · obtain rfl : h = Lq.length := by omega
          have hkr : Kwn Q wr at_ ⟨how, runT q s0 Lq.length, out⟩ (27 * (Lq.length - Lq.length)) G2 := ⟨K, Ge, A, cA, Ao, co, hk, hG⟩
          have hwg := HS2.out.trans hst
          obtain ⟨c1, f1, k4, s4⟩ := hkr.fat ta
          have HS4 := Lib.hid (hwg.trans s4)
          have HK4 := Lib.hid k4
          clear hk hG hst hh hkr hwg k4 s4
          go_upto_region 10 with fail
          clear c1 f1
          generalize wr.setCell ⟨Q.kg, 1, none⟩ (.int .i64 (ta : Int)) = w4 at *
          clear K Ge A cA Ao co
          obtain ⟨K, Ge, A, cA, Ao, co, hk, hG⟩ := HK4.out
          have d6 : w4.cell? ⟨Q.kg, 6, none⟩ = some (.pointer (some ⟨K.g, 0, none⟩)) := hk.fs.2.2.2.2.2.2.1
          have KE : ∀ W, Only (fun _ => False) w4 W → Calls Tryz.prog 51 #[.pointer (some ⟨K.g, 0, none⟩)] W (StrPost Q W ta how (runT q s0 Lq.length) out 0 G2) := by
            intro W hW
            have hk' := hk.only hW (fun _ _ h => h)
            exact (cend_any (k' := 0) hk'.cw (by decide)).mono fun e w' hp => hk'.fin hG HFIN.out.1 (by have := HFIN.out.2; show 0 < (runT q s0 Lq.length).2.x.l; omega) hp
          have KE := Lib.hid KE
          have HR0 := Lib.hid (Only.refl (fun _ => False) w4)
          clear hk hG
          go_wp2_with fail
          refine (KE.out _ (by first | exact HR0.out | exact HR0.out.drewN _ | exact HR0.out.drew)).mono ?_
          rintro x w5 ⟨B, c5, G5, rfl, hsl, hap5, hk5, hs5⟩
          have HE := Lib.hid (show StrPost Q w ta how (runT q s0 Lq.length) out 0 G (.returned (.slice B (runT q s0 Lq.length).2.x.l c5)) w5 from ⟨B, c5, G5, rfl, hsl, hap5, hk5, HS4.out.trans ⟨hs5.nw, by first | exact hs5.on | exact hs5.on.of_drew | exact hs5.on.of_drewN⟩⟩)
          clear hsl hap5 hk5 hs5 KE d6
          go_wp2_with fail
          go_ret
          rw [HRUN.out, ← HTA.out]
          exact HE.out
end
end Go.Proofs.YtoencondpbkomaaGreat

/-
  A setting's properties, as bytes.
-/
namespace Go.Proofs.YtoencondpbkomaaGreat
open Go.RowKit

/-- a setting's properties -/
def propsOf (lc lp pb dict : Nat) : List UInt8 := [UInt8.ofNat (45 * pb + 9 * lp + lc), UInt8.ofNat (dict % 256), UInt8.ofNat (dict / 256 % 256), UInt8.ofNat (dict / 65536 % 256), UInt8.ofNat (dict / 16777216)]
def PropsIs (w : World) (ys : List UInt8) (x : Ending) (w' : World) : Prop :=
  ∃ A c, x = .returned (.slice A ys.length c) ∧ Sl w' A ys.length (bv ys) ∧ Below w.heap.size w w'

end Go.Proofs.YtoencondpbkomaaGreat

/-
  Numbers that are put (cut out of SrcCur).
-/
namespace Go.Proofs.YtoencondpbkomaaGreat
open Go.RowKit

set_option maxHeartbeats 400000 in
theorem isSize_any (n : Int) (w : World) :
    Calls Tryz.prog 99 #[.int .i64 n] w fun e w' => e = .returned (.bool (decide (n = 1 ∨ n = 2 ∨ n = 4 ∨ n = 8))) ∧ w = w' := by
  go_enter Tryz.func99, Tryz.ntmps99
  go_wp2
  all_goals
    go_ret
    exact ⟨ret_bool (by first | (simp [*]; done) | (rw [Bool.eq_iff_iff]; simp [*])), rfl⟩

set_option maxHeartbeats 400000 in
theorem withRoom_any {A : Option Addr} {n c m : Nat} {x : Int} {bs : List UInt8} {w : World} (hS : Sl w A n (bv bs)) (hm : n ≤ 1000000000) (hx : x = (m : Int)) (hr : m ≤ 1000000000) :
    Calls Tryz.prog 98 #[.slice A n c, .int .i64 x] w fun e w' =>
      ∃ A' c', e = .returned (.slice A' n c') ∧ w'.ownsRow w.heap.size 5 1 (.slice A' n c') n (bv bs) ∧ Below w.heap.size w w' := by
  subst hx
  obtain ⟨i, hi, hz0, hz1, hz2⟩ := info_parts info_u8
  go_enter Tryz.func98, Tryz.ntmps98
  go_wp2_with (at_make; refine wpList_make_own _ rfl _ _ 22 rfl w.heap.size 5 i _ 1 Tryz.underlying22 hi hz0 hz1 _ _ _ (n + m) rfl rfl (Int.natCast_add n m).symm ?b1 ?b2 ?b3 ?_)
  case b1 => rw [hz2]; omega
  case b2 => unfold maxLen; omega
  case b3 => omega
  intro w1 ho hg
  have HO := Lib.hid ho
  have HG := Lib.hid hg
  have HS1 := Lib.hid (hS.below (only_none hg))
  clear ho hg hS
  go_wp2_with (at_builtin; refine wpList_app _ rfl (.tmp 9) (.tmp 10) 22 rfl w.heap.size 5 i _ 1 Tryz.underlying22 hi hz0 hz1 hz2 rfl _ 0 [] rfl HO.out A n c (bv bs) rfl HS1.out (bv_one bs) (by omega) (by omega) HG.out.size ?_)
  intro A' c' w2 ho hg
  have HO2 := Lib.hid ho
  have HG2 := Lib.hid hg
  clear ho hg
  go_wp2
  go_ret
  have ho := HO2.out
  simp only [Nat.zero_add, List.nil_append] at ho ⊢
  exact ⟨A', c', rfl, ho, (only_none HG.out).trans (below_of_only HG2.out (Nat.le_refl _) HG.out.size)⟩

set_option maxHeartbeats 400000 in
theorem putLeast_any {A : Option Addr} {n c base size v : Nat} {x : Int} {bs : List UInt8} {w : World} (hO : w.ownsRow base 5 1 (.slice A n c) n (bv bs)) (hb : base ≤ w.heap.size) (hm : n ≤ 1000000000) (hx : x = (size : Int)) (hs : size ≤ 8) (hv : v < 18446744073709551616) :
    Calls Tryz.prog 100 #[.slice A n c, .int .i64 x, .int .u64 (v : Int)] w fun e w' =>
      ∃ A' c', e = .returned (.slice A' (n + size) c') ∧ w'.ownsRow base 5 1 (.slice A' (n + size) c') (n + size) (bv (bs ++ leBytes size v)) ∧ Below base w w' := by
  subst hx
  obtain ⟨i, hi, hz0, hz1, hz2⟩ := info_parts info_u8
  have HO := Lib.hid hO
  clear hO
  go_enter Tryz.func100, Tryz.ntmps100
  go_wp2
  go_loopw [0, 9] (fun s i wr => ∃ (k : Nat) (A' : Option Addr) (c' : Nat), k ≤ size ∧ i = .int .i64 k ∧ s = .slice A' (n + k) c' ∧ wr.ownsRow base 5 1 (.slice A' (n + k) c') (n + k) (bv (bs ++ leBytes k v)) ∧ Below base w wr) (fun _ i _ => size - (intOf i).toNat)
  case atStart => exact ⟨0, A, c, Nat.zero_le _, rfl, rfl, by simpa [leBytes] using HO.out, Below.refl _ _⟩
  case round =>
    obtain ⟨k, A', c', hk, rfl, rfl, ho, hbw⟩ := hrel
    have HO1 := Lib.hid ho
    have HB := Lib.hid hbw
    have hsz : base ≤ wr.heap.size := Nat.le_trans hb hbw.size
    clear ho hbw HO
    by_cases hlt : k < size
    · have hi8 : (8 * (k : Int)) ≤ 64 := by omega
      go_wp2_with (at_builtin; refine wpList_app _ rfl (.tmp 12) (.tmp 18) 22 rfl base 5 i _ 1 Tryz.underlying22 hi hz0 hz1 hz2 rfl _ (n + k) _ rfl (HO1.out.alloc _) _ 1 1 _ rfl (sl_one _ _ _) (one_one _ _) (by omega) (by omega) (by simp; omega) ?_)
      intro A2 c2 w2 ho hg
      have hb2 : Below base w w2 := (HB.out.alloc hsz _).grown hg (by simp; omega) (fun k e => (HO1.out.lt k e).1)
      have HO2 := Lib.hid ho
      have HB2 := Lib.hid hb2
      clear ho hg hb2
      go_wp2
      go_roundw
      case rel =>
        refine ⟨k + 1, A2, c2, by omega, by go_num, rfl, ?_, HB2.out⟩
        have ho := HO2.out
        rw [put_byte] at ho
        rw [leBytes_succ, ← List.append_assoc, bv_append]
        exact ho
      case measure => simp [intOf]; omega
    · obtain rfl : k = size := by omega
      go_wp2
      go_ret
      exact ⟨A', c', rfl, HO1.out, HB.out⟩
/-- a number of a size as bytes -/
def putM (size : Int) (v : Nat) : List UInt8 := if size = 1 ∨ size = 2 ∨ size = 4 ∨ size = 8 then leBytes size.toNat v else []

set_option maxHeartbeats 1000000 in
theorem put_any {A : Option Addr} {n c v : Nat} {x : Int} {bs : List UInt8} {w : World} (hS : Sl w A n (bv bs)) (hm : n ≤ 100000000) (hv : v < 18446744073709551616) :
    Calls Tryz.prog 71 #[.slice A n c, .int .i64 x, .int .u64 (v : Int)] w fun e w' =>
      ∃ A' c', e = .returned (.slice A' (n + (putM x v).length) c') ∧ w'.ownsRow w.heap.size 5 1 (.slice A' (n + (putM x v).length) c') (n + (putM x v).length) (bv (bs ++ putM x v)) ∧ Below w.heap.size w w' := by
  have HS := Lib.hid hS
  clear hS
  have hz := fun w => isSize_any x w
  by_cases hs : x = 1 ∨ x = 2 ∨ x = 4 ∨ x = 8
  · obtain ⟨size, rfl⟩ := Int.eq_ofNat_of_zero_le (show 0 ≤ x by omega)
    rw [decide_eq_true hs] at hz
    have hp : putM (size : Int) v = leBytes size v := by simp [putM, hs]
    rw [hp, leBytes_length]
    have h8 : size ≤ 8 := by omega
    have HZ := Lib.hid hz
    clear hz hs hp
    go_enter Tryz.func71, Tryz.ntmps71
    go_wp2_with fail
    refine (withRoom_any (m := 8) HS.out (by omega) rfl (by omega)).mono ?_
    rintro e w1 ⟨A1, c1, rfl, ho, hb⟩
    have HO := Lib.hid ho
    have HB := Lib.hid hb
    clear ho hb
    go_wp2_with fail
    refine (HZ.out _).mono ?_
    rintro e w2 ⟨rfl, rfl⟩
    go_wp2_with fail
    refine (putLeast_any (size := size) HO.out HB.out.size (by omega) rfl h8 hv).mono ?_
    rintro e w2 ⟨A2, c2, rfl, ho, hb⟩
    have HO2 := Lib.hid ho
    have HB2 := Lib.hid (HB.out.trans hb)
    clear ho hb
    go_wp2
    go_ret
    exact ⟨A2, c2, rfl, HO2.out, HB2.out⟩
  · rw [decide_eq_false hs] at hz
    have hp : putM x v = [] := by simp [putM, hs]
    rw [hp]
    have HZ := Lib.hid hz
    clear hz hs hp
    go_enter Tryz.func71, Tryz.ntmps71
    go_wp2_with fail
    refine (withRoom_any (m := 8) HS.out (by omega) rfl (by omega)).mono ?_
    rintro e w1 ⟨A1, c1, rfl, ho, hb⟩
    have HO := Lib.hid ho
    have HB := Lib.hid hb
    clear ho hb
    go_wp2_with fail
    refine (HZ.out _).mono ?_
    rintro e w2 ⟨rfl, rfl⟩
    go_wp2
    go_ret
    exact ⟨A1, c1, rfl, by simpa using HO.out, HB.out⟩
end Go.Proofs.YtoencondpbkomaaGreat

/-
  The program's settings: properties put.
-/
namespace Go.Proofs.YtoencondpbkomaaGreat
open Go.RowKit

theorem below_gg {w0 w1 w2 : World} {B : Nat} (h : Below B w0 w1) (hb : Below w1.heap.size w1 w2) (hB : B ≤ w0.heap.size) : Below B w0 w2 :=
  h.trans ⟨hb.os, hb.tape, hb.output, hb.size, fun i hi => hb.block i (by have := h.size; omega)⟩
section
variable {w : World} {lc lp pb dict : Nat}
theorem put_props {first dict : Nat} (hf : first < 256) (hd : dict < 4294967296) : [] ++ putM ((1 : Nat) : Int) first ++ putM ((4 : Nat) : Int) dict = [UInt8.ofNat first, UInt8.ofNat (dict % 256), UInt8.ofNat (dict / 256 % 256), UInt8.ofNat (dict / 65536 % 256), UInt8.ofNat (dict / 16777216)] := by
  have e1 : putM ((1 : Nat) : Int) first = leBytes 1 first := by simp [putM]
  have e4 : putM ((4 : Nat) : Int) dict = leBytes 4 dict := by simp [putM]
  rw [e1, e4]
  simp only [leBytes, List.range_succ, List.range_zero, List.nil_append, List.map_cons, List.map_nil, List.cons_append, Nat.pow_zero, Nat.div_one, Nat.reducePow]
  rw [Nat.mod_eq_of_lt hf, Nat.mod_eq_of_lt (show dict / 16777216 < 256 by omega)]

set_option maxRecDepth 100000 in
set_option maxHeartbeats 4000000 in
theorem pprops_any (h : SetOk lc lp pb dict) (w : World) : Calls Tryz.prog 53 #[.agg #[.int .i64 (lc : Int), .int .i64 (lp : Int), .int .i64 (pb : Int), .int .i64 (dict : Int)]] w (PropsIs w (propsOf lc lp pb dict)) := by
  obtain ⟨w1, hw1⟩ : ∃ w1, w1 = w.alloc (.cells #[.int .i64 (lc : Int), .int .i64 (lp : Int), .int .i64 (pb : Int), .int .i64 (dict : Int)] 24) := ⟨_, rfl⟩
  have hb1 : Below w.heap.size w w1 := by rw [hw1]; exact (Below.refl _ _).alloc (Nat.le_refl _) _
  have HBk : Blk w1 w.heap.size 24 #[.int .i64 (lc : Int), .int .i64 (lp : Int), .int .i64 (pb : Int), .int .i64 (dict : Int)] := by rw [hw1]; exact Blk.fresh w _ _
  have KM := pmay_any (lc : Int) (lp : Int) (pb : Int) (dict : Int) w1
  rw [setOk_may h] at KM
  have KM := Lib.hid KM
  obtain ⟨h1, h2, h3, h4, h5⟩ := h
  obtain ⟨first, hfirst⟩ : ∃ f, f = 45 * pb + 9 * lp + lc := ⟨_, rfl⟩
  have hpo : propsOf lc lp pb dict = [] ++ putM ((1 : Nat) : Int) first ++ putM ((4 : Nat) : Int) dict := by
    rw [put_props (by omega) h5, hfirst]
    rfl
  rw [hpo]
  have e1 : IntKind.i64.wrap ((pb : Int) * 5) = (pb : Int) * 5 := IntWalk.i64_in _ (by omega)
  have e2 : IntKind.i64.wrap ((pb : Int) * 5 + (lp : Int)) = (pb : Int) * 5 + (lp : Int) := IntWalk.i64_in _ (by omega)
  have e3 : IntKind.i64.wrap (((pb : Int) * 5 + (lp : Int)) * 9) = ((pb : Int) * 5 + (lp : Int)) * 9 := IntWalk.i64_in _ (by omega)
  have e4 : IntKind.i64.wrap (((pb : Int) * 5 + (lp : Int)) * 9 + (lc : Int)) = (first : Int) := by rw [show ((pb : Int) * 5 + (lp : Int)) * 9 + (lc : Int) = (first : Int) by omega]; exact IntWalk.i64_in _ (by omega)
  have e5 : IntKind.u64.wrap (first : Int) = (first : Int) := u64_in _ (by omega)
  have e6 : IntKind.u64.wrap (dict : Int) = (dict : Int) := u64_in _ (by omega)
  have hf1 : first < 18446744073709551616 := by omega
  have hd1 : dict < 18446744073709551616 := by omega
  have HNUM := Lib.hid (And.intro hf1 hd1)
  obtain ⟨y1, hy1⟩ : ∃ y, y = [] ++ putM ((1 : Nat) : Int) first := ⟨_, rfl⟩
  obtain ⟨y2, hy2⟩ : ∃ y, y = y1 ++ putM ((4 : Nat) : Int) dict := ⟨_, rfl⟩
  rw [← hy1, ← hy2]
  obtain ⟨n1, hn1⟩ : ∃ n, n = y1.length := ⟨_, rfl⟩
  obtain ⟨n2, hn2⟩ : ∃ n, n = y2.length := ⟨_, rfl⟩
  have hl1 : n1 = 1 := by rw [hn1, hy1]; simp [putM, leBytes]
  have KP : ∀ W : World, Calls Tryz.prog 71 #[.slice none 0 0, .int .i64 1, .int .u64 (first : Int)] W fun e w' => ∃ A' c', e = .returned (.slice A' n1 c') ∧ Sl w' A' n1 (bv y1) ∧ Below W.heap.size W w' := by
    intro W
    refine (put_any (w := W) (A := none) (n := 0) (c := 0) (v := first) (x := ((1 : Nat) : Int)) (bs := []) Sl.nil (by omega) HNUM.out.1).mono ?_
    rintro e w' ⟨A', c', rfl, ho, hb⟩
    have e1 : 0 + (putM ((1 : Nat) : Int) first).length = n1 := by rw [hn1, hy1]; simp
    rw [e1, ← hy1] at ho
    rw [e1]
    exact ⟨A', c', rfl, Sl.of_own ho, hb⟩
  have KQ : ∀ (W : World) (A : Option Addr) (c : Nat), Sl W A n1 (bv y1) → Calls Tryz.prog 71 #[.slice A n1 c, .int .i64 4, .int .u64 (dict : Int)] W fun e w' => ∃ A' c', e = .returned (.slice A' n2 c') ∧ Sl w' A' n2 (bv y2) ∧ Below W.heap.size W w' := by
    intro W A c hS
    refine (put_any (w := W) (A := A) (n := n1) (c := c) (v := dict) (x := ((4 : Nat) : Int)) (bs := y1) hS (by omega) HNUM.out.2).mono ?_
    rintro e w' ⟨A', c', rfl, ho, hb⟩
    have e1 : n1 + (putM ((4 : Nat) : Int) dict).length = n2 := by rw [hn2, hy2, List.length_append, hn1]
    rw [e1, ← hy2] at ho
    rw [e1]
    exact ⟨A', c', rfl, Sl.of_own ho, hb⟩
  have KP := Lib.hid KP
  have KQ := Lib.hid KQ
  have HN2 := Lib.hid hn2
  clear hy1 hy2 hn1 hn2 hl1
  have c0 : w1.cell? ⟨w.heap.size, 0, none⟩ = some (.int .i64 (lc : Int)) := HBk.cell 0
  have c1 : w1.cell? ⟨w.heap.size, 1, none⟩ = some (.int .i64 (lp : Int)) := HBk.cell 1
  have c2 : w1.cell? ⟨w.heap.size, 2, none⟩ = some (.int .i64 (pb : Int)) := HBk.cell 2
  have c3 : w1.cell? ⟨w.heap.size, 3, none⟩ = some (.int .i64 (dict : Int)) := HBk.cell 3
  have HW1 := Lib.hid hw1
  have HB1 := Lib.hid hb1
  have HBK := Lib.hid HBk
  clear hw1 hb1 HBk h1 h2 h3 h4 h5 hf1 hd1 hpo hfirst
  go_enter Tryz.func53, Tryz.ntmps53
  go_upto_region 1 with fail
  rw [← HW1.out]
  clear HW1
  generalize hB : w.heap.size = B at *
  go_wp2_with fail
  refine KM.out.mono ?_
  rintro e w2 ⟨rfl, hb2⟩
  have HB2 := Lib.hid (below_gg HB1.out hb2 (Nat.le_of_eq hB.symm))
  have hk2 := HBK.out.below hb2
  have HK2 := Lib.hid hk2
  have d0 : w2.cell? ⟨B, 0, none⟩ = some (.int .i64 (lc : Int)) := hk2.cell 0
  have d1 : w2.cell? ⟨B, 1, none⟩ = some (.int .i64 (lp : Int)) := hk2.cell 1
  have d2 : w2.cell? ⟨B, 2, none⟩ = some (.int .i64 (pb : Int)) := hk2.cell 2
  have d3 : w2.cell? ⟨B, 3, none⟩ = some (.int .i64 (dict : Int)) := hk2.cell 3
  clear hb2 hk2 KM c0 c1 c2 c3 HB1 HBK
  have HS := Lib.hid (fun (W : World) (hW : Only (fun _ => False) w2 W) => (show W.cell? ⟨B, 3, none⟩ = some (.int .i64 (dict : Int)) from (HK2.out.only hW (fun h => h)).cell 3))
  go_wp2_with fail
  go_region_held3 (fun w' => w'.cell? ⟨B, 3, none⟩ = some (.int .i64 (dict : Int)))
    (first | assumption | go_keep | exact HS.out _ HO3.out | exact HS.out _ HO4.out)
    (first
      | (go_at_call 71; ((with_reducible refine (KP.out _).mono ?_); rintro e w3 ⟨A3, c3, rfl, hS3, hb3⟩; have HO3 := Lib.hid (show Only (fun _ => False) w2 w3 from ((Only.refl (fun _ => False) w2).drew).trans (Only.of_below hb3)); have HS3 := Lib.hid hS3; clear hb3 hS3))
      | (go_at_call 71; ((with_reducible refine (KQ.out _ _ _ HS3.out).mono ?_); rintro e w4 ⟨A4, c4, rfl, hS4, hb4⟩; have HO4 := Lib.hid (show Only (fun _ => False) w2 w4 from HO3.out.trans (Only.of_below hb4)); have HS4 := Lib.hid hS4; clear hb4 hS4)))
  go_wp2_with fail
  go_ret
  refine ⟨A4, c4, by rw [← HN2.out]; rfl, by rw [← HN2.out]; exact HS4.out, ?_⟩
  rw [hB]
  exact HB2.out.trans ⟨HO4.out.os, HO4.out.tape, HO4.out.output, HO4.out.size, fun i hi => HO4.out.block i (by have := HB2.out.size; omega) (fun h => h)⟩

end
end Go.Proofs.YtoencondpbkomaaGreat
