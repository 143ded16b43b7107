/-
  PsFind, PsSame, PsAwk, PsAwake: put together.
-/
import Derived.Test.YtkdmahdhbogmeaaT21
import Derived.Deep.RegionHeld3
import Derived.Deep.Cut
import Derived.Test.YtkdmahdhbogmeaaT01
import Derived.Lib.SlBytesConst
set_option linter.unusedVariables false
set_option linter.unusedSimpArgs false
/-
  The program's Find: the walk.
-/
namespace Go.Proofs.Ytkdmahdhbogmeaa
open Go.RowKit

def fromN (n : Nat) (x : Int) : Nat := (min (max x 0) (n : Int)).toNat
def toN (n F : Nat) (x : Int) : Nat := (min (max x (F : Int)) (n : Int)).toNat
def dictN (x : Int) : Nat := (max x 1).toNat
def FindPost (w : World) (bs : List UInt8) (D T : Nat) (s : Ps) (x : Ending) (w' : World) : Prop :=
  Below w.heap.size w w' ∧ ∃ (L : List Pq) (s' : Ps) (R : Option Addr) (cl : Nat), findF bs D T s = (L, s') ∧ s'.Lit ∧ L.length ≤ T ∧ x = .returned (.tuple #[.slice R L.length cl, .agg #[.int .u32 (s'.r0 : Int), .int .u32 (s'.r1 : Int), .int .u32 (s'.r2 : Int), .int .u32 (s'.r3 : Int)]]) ∧
    w'.ownsRow w.heap.size 44 4 (.slice R L.length cl) L.length (L.flatMap pkV)
theorem cut_get (bs : List UInt8) (P T : Nat) (hT : T ≤ bs.length) : ∀ j, j < T - P → ((bs.take T).drop P).getD j 0 = bs.getD (P + j) 0 := by
  intro j hj
  simp only [List.getD_eq_getElem?_getD, List.getElem?_drop]
  rw [List.getElem?_take_of_lt (by omega)]
section
variable {w : World} {A : Option Addr} {n c : Nat} {bs : List UInt8} {fi ti di : Int} {r0 r1 r2 r3 : Nat}
set_option maxRecDepth 100000 in
set_option maxHeartbeats 16000000 in
theorem pfind_any (hS : Sl w A n (bv bs)) (hn : n ≤ 1000000000) (hnc : n ≤ c) (hc : c ≤ maxLen) (hd1 : -9223372036854775808 ≤ di) (hd2 : di ≤ 9223372036854775807) (hl : Ps.Lit ⟨0, r0, r1, r2, r3⟩) :
    Calls Try.prog 6 #[.slice A n c, .int .i64 fi, .int .i64 ti, .int .i64 di, .agg #[.int .u32 (r0 : Int), .int .u32 (r1 : Int), .int .u32 (r2 : Int), .int .u32 (r3 : Int)]] w (FindPost w bs (dictN di) (toN n (fromN n fi) ti) ⟨fromN n fi, r0, r1, r2, r3⟩) := by
  have hbl : bs.length = n := by rw [← bv_length]; exact hS.1
  obtain ⟨F, hF⟩ : ∃ F, F = fromN n fi := ⟨_, rfl⟩
  obtain ⟨T, hT⟩ : ∃ T, T = toN n F ti := ⟨_, rfl⟩
  obtain ⟨D, hD⟩ : ∃ D, D = dictN di := ⟨_, rfl⟩
  obtain ⟨P, hP⟩ : ∃ P, P = F - D := ⟨_, rfl⟩
  rw [← hF, ← hT, ← hD]
  obtain ⟨x1, hx1⟩ : ∃ x1, x1 = max fi 0 := ⟨_, rfl⟩
  obtain ⟨x2, hx2⟩ : ∃ x2, x2 = max ti (F : Int) := ⟨_, rfl⟩
  have hFn : F ≤ n ∧ (F : Int) = min x1 (n : Int) := by rw [hF, hx1]; unfold fromN; omega
  have hTn : F ≤ T ∧ T ≤ n ∧ (T : Int) = min x2 (n : Int) := by rw [hT, hx2]; unfold toN; omega
  have hDn : 1 ≤ D ∧ (D : Int) = max di 1 := by rw [hD]; unfold dictN; omega
  unfold maxLen at hc
  have m1 := max2_int (P := Try.prog) #[3, 3] 3 fi 0 x1 hx1
  have m2 := min2_int (P := Try.prog) #[3, 3] 3 x1 (n : Int) (F : Int) hFn.2
  have m3 := max2_int (P := Try.prog) #[3, 3] 3 ti (F : Int) x2 hx2
  have m4 := min2_int (P := Try.prog) #[3, 3] 3 x2 (n : Int) (T : Int) hTn.2.2
  have m5 := max2_int (P := Try.prog) #[3, 3] 3 di 1 (D : Int) hDn.2
  have e1 : wrap64 ((F : Int) - (D : Int)) = (F : Int) - (D : Int) := IntWalk.wrap64_in _ (by omega)
  have m6 := max2_int (P := Try.prog) #[3, 3] 3 ((F : Int) - (D : Int)) 0 (P : Int) (by omega)
  have HH := Lib.hid (show F ≤ T ∧ T ≤ n ∧ P ≤ F ∧ P = F - D ∧ 1 ≤ D ∧ D ≤ 9223372036854775807 ∧ n ≤ c ∧ n ≤ 1000000000 ∧ bs.length = n from ⟨hTn.1, hTn.2.1, by omega, hP, hDn.1, by omega, hnc, hn, hbl⟩)
  have HL := Lib.hid hl
  obtain ⟨w2, hw2⟩ : ∃ w2, w2 = (w.alloc (.cells #[.int .u32 (r0 : Int), .int .u32 (r1 : Int), .int .u32 (r2 : Int), .int .u32 (r3 : Int)] 24)).alloc (.cells #[.int .u32 0, .int .u32 0, .int .u32 0, .int .u32 0] 24) := ⟨_, rfl⟩
  have hb2 : Below w.heap.size w w2 := by rw [hw2]; exact ((Below.refl _ _).alloc (Nat.le_refl _) _).alloc (by simp) _
  have hq0 : Blk w2 w.heap.size 24 #[.int .u32 (r0 : Int), .int .u32 (r1 : Int), .int .u32 (r2 : Int), .int .u32 (r3 : Int)] := by rw [hw2]; exact (Blk.fresh w _ _).alloc _
  have hq1 : Blk w2 (w.heap.size + 1) 24 zero4 := by
    rw [hw2]
    have := Blk.fresh (w.alloc (.cells #[.int .u32 (r0 : Int), .int .u32 (r1 : Int), .int .u32 (r2 : Int), .int .u32 (r3 : Int)] 24)) 24 zero4
    have e : (w.alloc (.cells #[.int .u32 (r0 : Int), .int .u32 (r1 : Int), .int .u32 (r2 : Int), .int .u32 (r3 : Int)] 24)).heap.size = w.heap.size + 1 := by simp
    rw [e] at this
    exact this
  have hz2 : w2.heap.size = w.heap.size + 2 := by rw [hw2]; simp
  have HW2 := Lib.hid hw2
  have HB2 := Lib.hid (And.intro hb2 (And.intro hq1 hz2))
  have HS := Lib.hid hS
  have r0c : w2.cell? ⟨w.heap.size, 0, none⟩ = some (.int .u32 (r0 : Int)) := hq0.cell 0
  have r1c : w2.cell? ⟨w.heap.size, 1, none⟩ = some (.int .u32 (r1 : Int)) := hq0.cell 1
  have r2c : w2.cell? ⟨w.heap.size, 2, none⟩ = some (.int .u32 (r2 : Int)) := hq0.cell 2
  have r3c : w2.cell? ⟨w.heap.size, 3, none⟩ = some (.int .u32 (r3 : Int)) := hq0.cell 3
  clear hS hn hnc hc hd1 hd2 hl hbl hF hT hD hP hx1 hx2 hFn hTn hDn hw2 hb2 hq0 hq1 hz2
  go_enter Try.func6, Try.ntmps6
  go_upto_region 1 with fail
  rw [← HW2.out]
  clear HW2
  go_upto_region 5 with fail
  obtain ⟨m, hm⟩ : ∃ m, m = T - P := ⟨_, rfl⟩
  obtain ⟨c', hc'⟩ : ∃ c', c' = c - P := ⟨_, rfl⟩
  have HM := Lib.hid (And.intro hm hc')
  clear m1 m2 m3 m4 m5 m6 hc' e1
  go_cut [0] from 34 (fun v wx => (∃ A', v = .slice A' m c' ∧ Sl w A' m (bv ((bs.take T).drop P))) ∧ wx = w2)
  case first =>
    obtain ⟨h1, h2, h3, h4, h5, h6, h7, h8, h9⟩ := HH.out
    have i1 : (0 : Int) ≤ (P : Int) := by omega
    have i2 : (P : Int) ≤ (T : Int) := by omega
    have i3 : (T : Int) ≤ (c : Int) := by omega
    have hcut := ((HS.out.cut (k := P) (cap := c) (by omega) h7).first (k := m) (by omega))
    have e2 : ((bv bs).drop P).take m = bv ((bs.take T).drop P) := by
      rw [← bv_drop, ← bv_take, List.drop_take, hm]
    rw [e2] at hcut
    have HCUT := Lib.hid hcut
    have hmN : ((T : Int) - (P : Int)).toNat = m := by omega
    clear h1 h2 h3 h4 h5 h6 h7 h8 h9 hcut e2
    by_cases hcp : c = P
    · subst hcp
      have hm0 : m = 0 := by omega
      have HC0 := Lib.hid (show ∀ X, Sl w X m (bv ((bs.take T).drop c)) from fun X => ⟨HCUT.out.1, fun h => absurd h (by omega)⟩)
      clear hm0
      go_wp2_with fail
      go_meet
      exact ⟨⟨_, by rw [HM.out.1, HM.out.2, Nat.sub_self], HC0.out _⟩, rfl⟩
    · have hck2 : ¬ (c : Int) = (P : Int) := by omega
      go_wp2_with fail
      go_meet
      exact ⟨⟨_, by rw [HM.out.1, HM.out.2], by have := HCUT.out; rwa [if_neg hcp] at this⟩, rfl⟩
  case rest =>
    obtain ⟨⟨A', rfl, hS'⟩, hwc⟩ := hcut
    rw [hwc]
    clear hwc hm
    obtain ⟨hb2, hq1, hz2⟩ := HB2.out
    obtain ⟨h1, h2, h3, h4, h5, h6, h7, h8, h9⟩ := HH.out
    obtain ⟨b', hb'⟩ : ∃ b', b' = (bs.take T).drop P := ⟨_, rfl⟩
    rw [← hb'] at hS'
    obtain ⟨a0, ha0⟩ : ∃ a0, a0 = F - P := ⟨_, rfl⟩
    have e3 : wrap64 ((F : Int) - (P : Int)) = (a0 : Int) := by rw [IntWalk.wrap64_in _ (by omega)]; omega
    obtain ⟨g, hg⟩ : ∃ g, g = w2.heap.size := ⟨_, rfl⟩
    obtain ⟨q1, hq⟩ : ∃ q1, q1 = w.heap.size + 1 := ⟨_, rfl⟩
    obtain ⟨w3, hw3⟩ : ∃ w3, w3 = w2.alloc (.cells #[.slice A' m c', .int .i64 (a0 : Int), .int .i64 (D : Int), .int .u32 (r0 : Int), .int .u32 (r1 : Int), .int .u32 (r2 : Int), .int .u32 (r3 : Int), .slice A' m c', .slice none 0 0, .slice none 0 0] 54) := ⟨_, rfl⟩
    have hS2 : Sl w2 A' m (bv b') := hS'.below hb2
    have hB3 : Blk w3 g 54 (fCells A' m c' D ⟨a0, r0, r1, r2, r3⟩ (.slice none 0 0) (.slice none 0 0)) := by rw [hw3, hg]; exact Blk.fresh w2 _ _
    have hz3 : w3.heap.size = w2.heap.size + 1 := by rw [hw3]; simp
    have hal : 0 < m → ∀ p o, A' = some ⟨p, o, none⟩ → p < w.heap.size := fun h0 p o e => by
      obtain ⟨b', o', e', hlt, _⟩ := hS'.2 h0
      rw [e] at e'
      injection e' with e'
      injection e' with e'
      omega
    have hfl : Fl w w3 g q1 (fun i => i = g) A' m c' D b' ⟨a0, r0, r1, r2, r3⟩ 0 [] none 0 := by
      refine ⟨.inl ⟨⟨⟨hB3, by rw [hw3]; exact hS2.alloc _, by have := HM.out.1; omega, by show a0 ≤ m; have := HM.out.1; omega, h5, h6, ⟨HL.out.r0, HL.out.r1, HL.out.r2, HL.out.r3⟩⟩, rfl, fun i hi => by omega, fun h0 p o e e2 => by have := hal h0 p o e; omega⟩, rfl⟩, Nat.zero_le _, fun i hi => by omega, by rw [hw3]; exact hb2.alloc hb2.size _, ⟨rfl, .inl ⟨rfl, rfl⟩⟩, fun k e => (nomatch e), by rw [hw3, hq]; exact hq1.alloc _, by omega, by omega, hal⟩
    have HFL := Lib.hid hfl
    have HW3 := Lib.hid hw3
    have HPT := Lib.hid (show findF bs D T ⟨F, r0, r1, r2, r3⟩ = ((findF b' D m ⟨a0, r0, r1, r2, r3⟩).1, (findF b' D m ⟨a0, r0, r1, r2, r3⟩).2.far P) by
      have hT' : T = P + m := by have := HM.out.1; omega
      have hF' : (⟨F, r0, r1, r2, r3⟩ : Ps) = Ps.far ⟨a0, r0, r1, r2, r3⟩ P := by
        show _ = Ps.mk (P + a0) r0 r1 r2 r3
        rw [show P + a0 = F by omega]
      have hcg : ∀ j, j < m → b'.getD j 0 = bs.getD (P + j) 0 := fun j hj => by
        rw [hb']
        exact cut_get bs P T (by omega) j (by have := HM.out.1; omega)
      rw [hF']
      have hh := find_part (b := bs) (c := b') (dict := D) (p := P) (t := m) hcg (s := ⟨a0, r0, r1, r2, r3⟩) (by show a0 ≤ m; have := HM.out.1; omega) (by show P = 0 ∨ D ≤ a0; omega)
      rwa [← hT'] at hh)
    have HMM := Lib.hid (show a0 ≤ m ∧ m ≤ 1000000000 ∧ m ≤ T from ⟨by have := HM.out.1; omega, by have := HM.out.1; omega, by have := HM.out.1; omega⟩)
    have HG := Lib.hid hg
    rw [← hq]
    clear hb2 hq1 hz2 h1 h2 h3 h4 h5 h6 h7 h8 h9 hb' ha0 hg hq hS' hS2 hB3 hz3 hal hfl hw3 HB2 HS
    go_upto_region 7 with fail
    rw [← HW3.out, ← HG.out]
    clear HW3 HG e3 r0c r1c r2c r3c
    obtain ⟨s0, hs0⟩ : ∃ s0 : Ps, s0 = ⟨a0, r0, r1, r2, r3⟩ := ⟨_, rfl⟩
    rw [← hs0] at HFL HPT
    have HS0 := Lib.hid (show s0.i ≤ m by rw [hs0]; exact HMM.out.1)
    clear hs0
    go_wp2_with fail
    go_loopw [14] (fun v wr => ∃ (j : Nat) (G' : Nat → Prop) (cnt : Nat) (R : Option Addr) (cl : Nat), v = .slice R (goF b' D m s0 j).1.length cl ∧ Fl w wr g q1 G' A' m c' D b' (goF b' D m s0 j).2 cnt (goF b' D m s0 j).1 R cl) (fun _ wr => m - (intOf ((wr.cell? ⟨g, 1, none⟩).getD undef)).toNat)
    case atStart => exact ⟨0, fun i => i = g, 0, none, 0, rfl, HFL.out⟩
    case round =>
      obtain ⟨j, G', cnt, R, cl, rfl, hfl⟩ := hrel
      have c1 : wr.cell? ⟨g, 1, none⟩ = some (.int .i64 ((goF b' D m s0 j).2.i : Int)) := by obtain ⟨_, _, hq⟩ := hfl.fd.fq; exact hq.c1
      have hlen := go_len (b := b') (dict := D) (e := m) (s := s0) j
      have HSU := Lib.hid (fun h => go_succ (b := b') (dict := D) (e := m) (s := s0) (n := j) h)
      have HFI := Lib.hid (fun h => find_is (b := b') (dict := D) (e := m) (s := s0) (n := j) h)
      have HGE := Lib.hid (go_end (b := b') (dict := D) (e := m) (s := s0) HS0.out j)
      obtain ⟨X, hX⟩ : ∃ X, X = goF b' D m s0 j := ⟨_, rfl⟩
      rw [← hX] at hfl c1 hlen HSU HFI HGE ⊢
      obtain ⟨L, s⟩ := X
      have HX := Lib.hid hX
      have HFL := Lib.hid (show Fl w wr g q1 G' A' m c' D b' s cnt L R cl from hfl)
      have c1 : wr.cell? ⟨g, 1, none⟩ = some (.int .i64 (s.i : Int)) := c1
      have hlen : L.length ≤ j := hlen
      clear hX
      by_cases hlt : s.i < m
      · have i1 : (s.i : Int) < (m : Int) := by omega
        have KP := Lib.hid (ppacket_any HFL.out.fd HFL.out.cn hlt)
        have HLT := Lib.hid (show s.i < m ∧ L.length ≤ j from ⟨hlt, hlen⟩)
        have HC1 := Lib.hid c1
        clear hfl hlen hlt
        go_wp2_with fail
        refine KP.out.mono ?_
        rintro x w5 ⟨p, s', s1, k, hst, hs', hsi, rfl, hfp⟩
        obtain ⟨G5, cnt5, hfl5⟩ := HFL.out.pkt hfp
        have HF5 := Lib.hid hfl5
        have HST := Lib.hid (And.intro hst (And.intro hs' hsi))
        clear KP hst hs' hsi hfp hfl5 c1
        go_upto_region 10 with fail
        have hkb := Blk.fresh w5 44 #[.int .i64 p.k, .int .u8 p.a, .int .i64 p.n, .int .u32 p.v]
        have HF7 := Lib.hid (HF5.out.same ((Only.refl (fun _ => False) w5).alloc (.cells #[.int .i64 p.k, .int .u8 p.a, .int .i64 p.n, .int .u32 p.v] 44)))
        clear HF5
        generalize w5.alloc (.cells #[.int .i64 p.k, .int .u8 p.a, .int .i64 p.n, .int .u32 p.v] 44) = w7 at *
        generalize w5.heap.size = y at *
        have l0 : w7.cell? ⟨y, 0, none⟩ = some (.int .i64 p.k) := hkb.cell 0
        have l1 : w7.cell? ⟨y, 1, none⟩ = some (.int .u8 p.a) := hkb.cell 1
        have l2 : w7.cell? ⟨y, 2, none⟩ = some (.int .i64 p.n) := hkb.cell 2
        have l3 : w7.cell? ⟨y, 3, none⟩ = some (.int .u32 p.v) := hkb.cell 3
        have HF8 := Lib.hid (HF7.out.same ((Only.refl (fun _ => False) w7).alloc (.cells #[.int .i64 p.k, .int .u8 p.a, .int .i64 p.n, .int .u32 p.v] 44)))
        obtain ⟨ip, hip, hpz, hps, hpb⟩ := info_parts info_ppk
        have HLE := Lib.hid (show L.length + 1 ≤ 1000000001 from by
          have h1 := HSU.out HLT.out.1
          have h2 := go_more (b := b') (dict := D) (e := m) (s := s0) j (by rw [← HX.out]; exact HLT.out.1)
          rw [← HX.out] at h2
          have h2 : s0.i + j ≤ s.i := h2
          have := HLT.out
          have := HMM.out
          omega)
        clear hkb HF7
        go_wp2_with (at_builtin; refine wpList_append_lies _ rfl (.tmp 60) (.tmp 62) 28 rfl w.heap.size 44 ip _ 4 32 Try.underlying28 hip hpz hps hpb (by rfl) (by decide) (.slice R L.length cl) L.length (L.flatMap pkV) rfl HF8.out.row ⟨w7.heap.size, 0, none⟩ 1 1 (pkV p) rfl rfl (ppk_news w7 p _) (ppkV_one p) (by decide) (by have := HLE.out; unfold maxLen; omega) (by have := HLE.out; omega) HF8.out.bel.size _ rfl ?_)
        intro x9 cap9 w9 ho9 hg9 hl9 _
        have hf9 := HF8.out.app ho9 hg9 (hl9.imp id (fun h => by simpa using h))
        have hki : s1.i + k ≤ m := by
          obtain ⟨hst, hs', hsi⟩ := HST.out
          have := (step_i (b := b') (dict := D) (e := m) (s := s) HLT.out.1).2
          rw [hst, hs'] at this
          have : s.i + k ≤ m := this
          omega
        obtain ⟨d1, d2, hf10⟩ := hf9.at_ k hki
        have hsi := HST.out.2.2
        rw [hsi] at d1 hf10
        have es : ({ s1 with i := s.i + k } : Ps) = s' := HST.out.2.1.symm
        rw [es] at hf10
        have HF10 := Lib.hid hf10
        have e5 : wrap64 ((s.i : Int) + (k : Int)) = ((s.i + k : Nat) : Int) := by rw [IntWalk.wrap64_in _ (by have := HMM.out; rw [hsi] at hki; omega)]; omega
        have hsm : s.i < s'.i := by
          have := (step_i (b := b') (dict := D) (e := m) (s := s) HLT.out.1).1
          rw [HST.out.1] at this
          exact this
        have HGO := Lib.hid (show goF b' D m s0 (j + 1) = (L ++ [p], s') by
          have := HSU.out HLT.out.1
          rw [this]
          show (L ++ [(stepF b' D m s).1], (stepF b' D m s).2) = _
          rw [HST.out.1])
        have HMS := Lib.hid (show s.i < s'.i ∧ s'.i ≤ m from ⟨hsm, by rw [← es]; show s.i + k ≤ m; rw [hsi] at hki; exact hki⟩)
        have hii : s'.i = s.i + k := by rw [← es]
        have HII := Lib.hid hii
        clear ho9 hg9 hl9 hf9 hki hf10 hsi es hsm hii HF8 l0 l1 l2 l3 hip hpz hps hpb HFL HSU HFI HGE HST
        go_wp2_with fail
        have c11 : (w9.setCell ⟨g, 1, none⟩ (.int .i64 ((s.i + k : Nat) : Int))).cell? ⟨g, 1, none⟩ = some (.int .i64 (s'.i : Int)) := by
          obtain ⟨_, _, hq⟩ := HF10.out.fd.fq
          exact hq.c1
        have HC11 := Lib.hid c11
        clear c11 d1 d2 e5
        go_roundw
        case rel => exact ⟨j + 1, G5, cnt5, some ⟨x9, 0, none⟩, cap9, by rw [HGO.out]; simp, by rw [HGO.out]; first | exact HF10.out | (have := HF10.out; simpa using this)⟩
        case measure =>
          have h1 := HC11.out
          have h2 := HC1.out
          have h3 := HMS.out
          simp only [Int.natCast_add] at h1
          rw [h2]
          first | rw [h1] | (rw [HC11.out])
          simp [intOf]
          omega
      · have i1 : ¬ (s.i : Int) < (m : Int) := by omega
        obtain ⟨lv, av, hfq⟩ := HFL.out.fd.fq
        have c3 := hfq.c3
        have c4 := hfq.c4
        have c5 := hfq.c5
        have c6 := hfq.c6
        have hqb := HFL.out.qb
        have z0 : wr.cell? ⟨q1, 0, none⟩ = some (.int .u32 0) := hqb.cell 0
        have z1 : wr.cell? ⟨q1, 1, none⟩ = some (.int .u32 0) := hqb.cell 1
        have z2 : wr.cell? ⟨q1, 2, none⟩ = some (.int .u32 0) := hqb.cell 2
        have z3 : wr.cell? ⟨q1, 3, none⟩ = some (.int .u32 0) := hqb.cell 3
        have f0 := hqb.free 0
        have f1 := hqb.free 1
        have f2 := hqb.free 2
        have f3 := hqb.free 3
        obtain ⟨wz, hwz⟩ : ∃ wz, wz = (((wr.setCell ⟨q1, 0, none⟩ (.int .u32 (s.r0 : Int))).setCell ⟨q1, 1, none⟩ (.int .u32 (s.r1 : Int))).setCell ⟨q1, 2, none⟩ (.int .u32 (s.r2 : Int))).setCell ⟨q1, 3, none⟩ (.int .u32 (s.r3 : Int)) := ⟨_, rfl⟩
        have hbz : Blk wz q1 24 #[.int .u32 (s.r0 : Int), .int .u32 (s.r1 : Int), .int .u32 (s.r2 : Int), .int .u32 (s.r3 : Int)] := by
          rw [hwz]
          exact (((hqb.put 0 (.int .u32 (s.r0 : Int))).put 1 (.int .u32 (s.r1 : Int))).put 2 (.int .u32 (s.r2 : Int))).put 3 (.int .u32 (s.r3 : Int))
        have hOz : Only (fun i => i = q1) wr wz := by
          rw [hwz]
          exact ((((Only.refl (fun i => i = q1) wr).setCell (p := ⟨q1, 0, none⟩) (.inl rfl) _).setCell (p := ⟨q1, 1, none⟩) (.inl rfl) _).setCell (p := ⟨q1, 2, none⟩) (.inl rfl) _).setCell (p := ⟨q1, 3, none⟩) (.inl rfl) _
        have HBZ := Lib.hid hbz
        have HOZ := Lib.hid hOz
        have HLI := Lib.hid hfq.lit
        have HWZ := Lib.hid hwz
        have HFF := Lib.hid (show findF b' D m s0 = (L, s) ∧ L.length ≤ T from by
          refine ⟨HFI.out (by show m ≤ s.i; omega), ?_⟩
          by_cases hj : j ≤ m
          · have := HMM.out; omega
          · have hne : ¬ (goF b' D m s0 m).2.i < m := fun h => by have := go_more m h; omega
            have h1 := go_stop (b := b') (dict := D) (e := m) (s := s0) (n := m) (by omega) (j - m)
            rw [show m + (j - m) = j by omega, ← HX.out] at h1
            have h2 := go_len (b := b') (dict := D) (e := m) (s := s0) m
            rw [← h1] at h2
            have : L.length ≤ m := h2
            have := HMM.out
            omega)
        clear hfq hqb hwz hbz hOz hfl hlen hlt HSU HFI HGE
        go_wp2_with fail
        go_region
        all_goals
          go_wp2_with fail
          rw [← HWZ.out]
          have k0 : wz.cell? ⟨q1, 0, none⟩ = some (.int .u32 (s.r0 : Int)) := HBZ.out.cell 0
          have k1 : wz.cell? ⟨q1, 1, none⟩ = some (.int .u32 (s.r1 : Int)) := HBZ.out.cell 1
          have k2 : wz.cell? ⟨q1, 2, none⟩ = some (.int .u32 (s.r2 : Int)) := HBZ.out.cell 2
          have k3 : wz.cell? ⟨q1, 3, none⟩ = some (.int .u32 (s.r3 : Int)) := HBZ.out.cell 3
          have hqw := HFL.out.qw
          have hrow := pown4_only HFL.out.row HOZ.out (fun k e => (HFL.out.ra k e).2)
          have hbel := HFL.out.bel.trans (HOZ.out.below HFL.out.bel.size (by rintro i rfl; exact hqw))
          refine bodyPost_ret (v := .tuple #[.slice R L.length cl, .agg #[.int .u32 (s.r0 : Int), .int .u32 (s.r1 : Int), .int .u32 (s.r2 : Int), .int .u32 (s.r3 : Int)]]) (by simp [results, Try.results6, go_sem, k0, k1, k2, k3]) rfl ⟨below_drewN hbel 1, L, s.far P, R, cl, ?_, ⟨HLI.out.r0, HLI.out.r1, HLI.out.r2, HLI.out.r3⟩, HFF.out.2, rfl, hrow⟩
          rw [HPT.out, HFF.out.1]
end
end Go.Proofs.Ytkdmahdhbogmeaa

/-
  The same packets.
-/
namespace Go.Proofs.Ytkdmahdhbogmeaa
open Go.RowKit
set_option maxRecDepth 100000 in
set_option maxHeartbeats 2000000 in
theorem rsame_any {A B : Option Addr} {n ca cb : Nat} {q : Nat → Pq} {w : World} (hA : Pkts w A n q) (hB : Pkts w B n q) (hn : n ≤ 1000000000) :
    Calls Try.prog 8 #[.slice A n ca, .slice B n cb] w fun e w' => e = .returned (.bool true) ∧ ∃ d, w.drewN d = w' := by
  have HA := Lib.hid hA
  have HB := Lib.hid hB
  have HN := Lib.hid hn
  clear hA hB hn
  go_enter Try.func8, Try.ntmps8
  go_wp2_with fail
  go_loopw [5] (fun i wr => ∃ j k : Nat, j ≤ n ∧ i = .int .i64 (j : Int) ∧ wr = w.drewN k) (fun i _ => n - (intOf i).toNat)
  case atStart => exact ⟨0, 0, Nat.zero_le _, rfl, rfl⟩
  case round =>
    obtain ⟨j, k, hj, rfl, rfl⟩ := hrel
    by_cases hlt : j < n
    · obtain ⟨ba, oa, rfl, hba, hca⟩ := HA.out (by omega)
      obtain ⟨bb, ob, rfl, hbb, hcb⟩ := HB.out (by omega)
      obtain ⟨a0, a1, a2, a3⟩ := hca j hlt
      obtain ⟨b0, b1, b2, b3⟩ := hcb j hlt
      generalize q j = x at *
      have i0 : (0 : Int) ≤ (j : Int) := by omega
      have i1 : (j : Int) < (n : Int) := by omega
      have e1 : IntKind.i64.wrap ((j : Int) + 1) = (j : Int) + 1 := IntWalk.i64_in _ (by have := HN.out; omega)
      clear hca hcb
      go_wp2_with fail
      go_quiet (fail)
      go_wp2_with fail
      go_roundw
      case rel => exact ⟨j + 1, k + nq, by omega, by go_num, rfl⟩
      case measure => simp [intOf]; omega
    · obtain rfl : j = n := by omega
      go_wp2_with fail
      go_ret
      exact ⟨rfl, _, rfl⟩
end Go.Proofs.Ytkdmahdhbogmeaa

/-
  The laws' beginning: numbers.
-/
namespace Go.Proofs.Ytkdmahdhbogmeaa
theorem awk_aaaa : findF [97, 97, 97, 97] 4096 4 ⟨0, 0, 0, 0, 0⟩ = ([⟨0, 97, 0, 0⟩, ⟨2, 0, 3, 0⟩], ⟨4, 0, 0, 0, 0⟩) := by rfl
theorem awk_abab : findF [97, 98, 97, 98] 4096 4 ⟨0, 0, 0, 0, 0⟩ = ([⟨0, 97, 0, 0⟩, ⟨0, 98, 0, 0⟩, ⟨1, 0, 2, 1⟩], ⟨4, 1, 0, 0, 0⟩) := by rfl
end Go.Proofs.Ytkdmahdhbogmeaa

/-
  The laws' beginning.
-/
namespace Go.Proofs.Ytkdmahdhbogmeaa
open Go.RowKit

theorem below_p {w0 w1 w2 : World} {B : Nat} (h : Below B w0 w1) (hb : Below w1.heap.size w1 w2) (hB : B ≤ w0.heap.size) : Below B w0 w2 :=
  h.trans ⟨hb.os, hb.tape, hb.output, hb.size, fun i hi => hb.block i (by have := h.size; omega)⟩
theorem sl_marked (w : World) (e : TypeId) (cs : Array Value) (fr : Nat × Nat) : Sl (w.alloc (.cells cs e fr)) (some ⟨w.heap.size, 0, none⟩) cs.size cs.toList :=
  ⟨by simp, fun _ => ⟨w.heap.size, 0, rfl, by simp, fun j _ => by rw [Nat.zero_add, cell_of_row _ _ j cs e fr (heap_alloc_new w _)]; simp⟩⟩
theorem sl_four (w : World) (a b c d : UInt8) : Sl (w.alloc (.cells #[.int .u8 (a.toNat : Int), .int .u8 (b.toNat : Int), .int .u8 (c.toNat : Int), .int .u8 (d.toNat : Int)] 5 (4, 5))) (some ⟨w.heap.size, 0, none⟩) 4 (bv [a, b, c, d]) :=
  sl_marked w 5 #[.int .u8 (a.toNat : Int), .int .u8 (b.toNat : Int), .int .u8 (c.toNat : Int), .int .u8 (d.toNat : Int)] (4, 5)
theorem conv_four (w : World) (a b c d : Int) : (convert 22 22 (.slice (some ⟨w.heap.size, 0, none⟩) 4 4)).run Try.prog (w.alloc (.cells #[.int .u8 a, .int .u8 b, .int .u8 c, .int .u8 d] 5)) = .ok (.slice (some ⟨w.heap.size, 0, none⟩) 4 4) (w.alloc (.cells #[.int .u8 a, .int .u8 b, .int .u8 c, .int .u8 d] 5 (4, 5))) :=
  Go.Lib.run_convert_bytes_const w 22 5 #[.int .u8 a, .int .u8 b, .int .u8 c, .int .u8 d] 4 4 Try.underlying22 Try.underlying5
theorem pkts_two (w : World) (p q : Pq) (t : TypeId) : Pkts (w.alloc (.cells #[.int .i64 p.k, .int .u8 p.a, .int .i64 p.n, .int .u32 p.v, .int .i64 q.k, .int .u8 q.a, .int .i64 q.n, .int .u32 q.v] t)) (some ⟨w.heap.size, 0, none⟩) 2 (fun i => [p, q].getD i ⟨0, 0, 0, 0⟩) := by
  intro _
  have h := Blk.fresh w t #[.int .i64 p.k, .int .u8 p.a, .int .i64 p.n, .int .u32 p.v, .int .i64 q.k, .int .u8 q.a, .int .i64 q.n, .int .u32 q.v]
  refine ⟨w.heap.size, 0, rfl, h.lt, fun i hi => ?_⟩
  match i, hi with
  | 0, _ => exact ⟨h.cell 0, h.cell 1, h.cell 2, h.cell 3⟩
  | 1, _ => exact ⟨h.cell 4, h.cell 5, h.cell 6, h.cell 7⟩
/-- four bytes are found -/
theorem find_four {w : World} {a b c d : UInt8} {L : List Pq} {s : Ps} (hf : findF [a, b, c, d] 4096 4 ⟨0, 0, 0, 0, 0⟩ = (L, s)) :
    Calls Try.prog 6 #[.slice (some ⟨w.heap.size, 0, none⟩) 4 4, .int .i64 0, .int .i64 4, .int .i64 4096, .agg #[.int .u32 0, .int .u32 0, .int .u32 0, .int .u32 0]] (w.alloc (.cells #[.int .u8 (a.toNat : Int), .int .u8 (b.toNat : Int), .int .u8 (c.toNat : Int), .int .u8 (d.toNat : Int)] 5 (4, 5))) fun x w' =>
      Below w.heap.size w w' ∧ ∃ (R : Option Addr) (cl : Nat), x = .returned (.tuple #[.slice R L.length cl, .agg #[.int .u32 (s.r0 : Int), .int .u32 (s.r1 : Int), .int .u32 (s.r2 : Int), .int .u32 (s.r3 : Int)]]) ∧ Pkts w' R L.length (fun i => L.getD i ⟨0, 0, 0, 0⟩) := by
  refine (pfind_any (fi := 0) (ti := 4) (di := 4096) (r0 := 0) (r1 := 0) (r2 := 0) (r3 := 0) (sl_four w a b c d) (by decide) (Nat.le_refl 4) (by unfold maxLen; omega) (by decide) (by decide) ⟨by decide, by decide, by decide, by decide⟩).mono ?_
  rintro x w' ⟨hb, L', s', R, cl, hf', _, _, rfl, hrow⟩
  have hf' : findF [a, b, c, d] 4096 4 ⟨0, 0, 0, 0, 0⟩ = (L', s') := hf'
  rw [hf] at hf'
  injection hf' with e1 e2
  subst e1 e2
  exact ⟨((Below.refl _ w).alloc (Nat.le_refl _) _).trans (hb.mono (by simp)), R, cl, rfl, (pkts_row hrow).2⟩

set_option maxRecDepth 100000 in
set_option maxHeartbeats 4000000 in
theorem awake10_any (w : World) : Calls Try.prog 5 #[] w fun e w' => e = .returned (.bool true) ∧ Below w.heap.size w w' := by
  have hcv := conv_four w 97 97 97 97
  have K1 := Lib.hid (show Calls Try.prog 6 #[.slice (some ⟨w.heap.size, 0, none⟩) 4 4, .int .i64 0, .int .i64 4, .int .i64 4096, .agg #[.int .u32 0, .int .u32 0, .int .u32 0, .int .u32 0]] (w.alloc (.cells #[.int .u8 97, .int .u8 97, .int .u8 97, .int .u8 97] 5 (4, 5))) (fun x w' =>
      Below w.heap.size w w' ∧ ∃ (R : Option Addr) (cl : Nat), x = .returned (.tuple #[.slice R 2 cl, .agg #[.int .u32 0, .int .u32 0, .int .u32 0, .int .u32 0]]) ∧ Pkts w' R 2 (fun i => [(⟨0, 97, 0, 0⟩ : Pq), ⟨2, 0, 3, 0⟩].getD i ⟨0, 0, 0, 0⟩)) from find_four (w := w) (a := 97) (b := 97) (c := 97) (d := 97) awk_aaaa)
  go_enter Try.func5, Try.ntmps5
  go_wp2_with fail
  refine K1.out.mono ?_
  clear hcv
  rintro x w2 ⟨hb2, R1, c1, rfl, hP1⟩
  have HB2 := Lib.hid hb2
  have HP1 := Lib.hid hP1
  clear K1 hb2 hP1
  go_upto_region 2 with fail
  have HP3 := Lib.hid (Pkts.below HP1.out ((Below.refl _ w2).alloc (Nat.le_refl _) (.cells #[.int .u32 0, .int .u32 0, .int .u32 0, .int .u32 0] 24)))
  have HB3 := Lib.hid (HB2.out.alloc HB2.out.size (.cells #[.int .u32 0, .int .u32 0, .int .u32 0, .int .u32 0] 24))
  clear HP1 HB2
  generalize w2.alloc (.cells #[.int .u32 0, .int .u32 0, .int .u32 0, .int .u32 0] 24) = w3 at *
  generalize w2.heap.size = y1 at *
  have hcv := conv_four w3 97 98 97 98
  have K2 := Lib.hid (show Calls Try.prog 6 #[.slice (some ⟨w3.heap.size, 0, none⟩) 4 4, .int .i64 0, .int .i64 4, .int .i64 4096, .agg #[.int .u32 0, .int .u32 0, .int .u32 0, .int .u32 0]] (w3.alloc (.cells #[.int .u8 97, .int .u8 98, .int .u8 97, .int .u8 98] 5 (4, 5))) (fun x w' =>
      Below w3.heap.size w3 w' ∧ ∃ (R : Option Addr) (cl : Nat), x = .returned (.tuple #[.slice R 3 cl, .agg #[.int .u32 1, .int .u32 0, .int .u32 0, .int .u32 0]]) ∧ Pkts w' R 3 (fun i => [(⟨0, 97, 0, 0⟩ : Pq), ⟨0, 98, 0, 0⟩, ⟨1, 0, 2, 1⟩].getD i ⟨0, 0, 0, 0⟩)) from find_four (w := w3) (a := 97) (b := 98) (c := 97) (d := 98) awk_abab)
  go_wp2_with fail
  refine K2.out.mono ?_
  rintro x w4 ⟨hb4, R2, c2, rfl, hP2⟩
  have HP14 := Lib.hid (Pkts.below HP3.out hb4)
  have HB4 := Lib.hid (below_p HB3.out hb4 (Nat.le_refl _))
  have HP2 := Lib.hid hP2
  clear K2 hb4 hP2 HP3 HB3 hcv
  go_upto_region 3 with fail
  have hq := Blk.fresh w4 24 #[.int .u32 1, .int .u32 0, .int .u32 0, .int .u32 0]
  have HP15 := Lib.hid (Pkts.below HP14.out ((Below.refl _ w4).alloc (Nat.le_refl _) (.cells #[.int .u32 1, .int .u32 0, .int .u32 0, .int .u32 0] 24)))
  have HP25 := Lib.hid (Pkts.below HP2.out ((Below.refl _ w4).alloc (Nat.le_refl _) (.cells #[.int .u32 1, .int .u32 0, .int .u32 0, .int .u32 0] 24)))
  have HB5 := Lib.hid (HB4.out.alloc HB4.out.size (.cells #[.int .u32 1, .int .u32 0, .int .u32 0, .int .u32 0] 24))
  clear HP14 HP2 HB4
  generalize w4.alloc (.cells #[.int .u32 1, .int .u32 0, .int .u32 0, .int .u32 0] 24) = w5 at *
  generalize w4.heap.size = y2 at *
  have KS := Lib.hid (show Calls Try.prog 8 #[.slice R1 2 c1, .slice (some ⟨w5.heap.size, 0, none⟩) 2 2] (w5.alloc (.cells #[.int .i64 0, .int .u8 97, .int .i64 0, .int .u32 0, .int .i64 2, .int .u8 0, .int .i64 3, .int .u32 0] 44)) (fun e w' => e = .returned (.bool true) ∧ ∃ d, (w5.alloc (.cells #[.int .i64 0, .int .u8 97, .int .i64 0, .int .u32 0, .int .i64 2, .int .u8 0, .int .i64 3, .int .u32 0] 44)).drewN d = w') from
    rsame_any (HP15.out.below ((Below.refl _ w5).alloc (Nat.le_refl _) _)) (pkts_two w5 ⟨0, 97, 0, 0⟩ ⟨2, 0, 3, 0⟩ _) (by decide))
  have HO6 := Lib.hid ((Below.refl _ w5).alloc (Nat.le_refl _) (.cells #[.int .i64 0, .int .u8 97, .int .i64 0, .int .u32 0, .int .i64 2, .int .u8 0, .int .i64 3, .int .u32 0] 44))
  have HQ := Lib.hid hq
  clear hq
  go_wp2_with fail
  refine KS.out.mono ?_
  rintro x w6 ⟨rfl, d, rfl⟩
  have hB6 := below_drewN HO6.out d
  have hq6 := HQ.out.below hB6
  have HB6 := Lib.hid (below_p HB5.out hB6 (Nat.le_refl _))
  obtain ⟨b2, o2, rfl, _, hc2⟩ := HP25.out.below hB6 (by decide)
  obtain ⟨l0, l1, l2, l3⟩ := hc2 2 (by decide)
  generalize (w5.alloc (.cells #[.int .i64 0, .int .u8 97, .int .i64 0, .int .u32 0, .int .i64 2, .int .u8 0, .int .i64 3, .int .u32 0] 44)).drewN d = w7 at *
  have l0 : w7.cell? ⟨b2, o2 + 8, none⟩ = some (.int .i64 1) := l0
  have l1 : w7.cell? ⟨b2, o2 + 8 + 1, none⟩ = some (.int .u8 0) := l1
  have l2 : w7.cell? ⟨b2, o2 + 8 + 2, none⟩ = some (.int .i64 2) := l2
  have l3 : w7.cell? ⟨b2, o2 + 8 + 3, none⟩ = some (.int .u32 1) := l3
  have heq : ∀ W : World, (binOp .eql 24 (.agg #[.int .u32 1, .int .u32 0, .int .u32 0, .int .u32 0]) (.agg #[.int .u32 1, .int .u32 0, .int .u32 0, .int .u32 0])).run Try.prog W = .ok (.bool true) W := fun _ => by kernel_rfl
  have q0 : w7.cell? ⟨y2, 0, none⟩ = some (.int .u32 1) := hq6.cell 0
  have q1 : w7.cell? ⟨y2, 1, none⟩ = some (.int .u32 0) := hq6.cell 1
  have q2 : w7.cell? ⟨y2, 2, none⟩ = some (.int .u32 0) := hq6.cell 2
  have q3 : w7.cell? ⟨y2, 3, none⟩ = some (.int .u32 0) := hq6.cell 3
  clear KS hB6 hq6 hc2 HP25 HP15 HQ HO6 HB5
  go_wp2_with fail
  go_ret
  exact ⟨rfl, HB6.out⟩
end Go.Proofs.Ytkdmahdhbogmeaa
