/-
  ZqJoin, ZqJoi2: put together.
-/
import Derived.Test.YtoencondpbkomaaGreatDoorT24
import Derived.Test.YtoencondpbkomaaGreatDoorT33
set_option linter.unusedVariables false
set_option linter.unusedSimpArgs false
/-
  Two streams of LZMA2, one behind the other, as numbers.
-/
namespace Go.Proofs.YtoencondpbkomaaGreatDoor
set_option linter.unusedVariables false

theorem packC_rest {n N : Nat} {rest rest' xs : List UInt8} {z : Lzs} {t : Pm Dc} {q' : Rs} (h : packC n rest z t N = some (xs, q')) : packC n rest' z t N = some (xs, ⟨q'.nd, q'.z, q'.ps, rest'⟩) := by
  unfold packC at h ⊢
  cases hu : upG (N : Int) n z t with
  | none => rw [hu] at h; cases h
  | some p =>
    obtain ⟨z2, t2⟩ := p
    rw [hu] at h
    have h : (if leftD t2.x = true ∧ z2.out.length = N then some (z2.out.drop (N - n), (⟨0, z2, t2.ps, rest⟩ : Rs)) else none) = some (xs, q') := h
    show (if leftD t2.x = true ∧ z2.out.length = N then some (z2.out.drop (N - n), (⟨0, z2, t2.ps, rest'⟩ : Rs)) else none) = _
    split at h
    · rename_i hc
      injection h with h
      injection h with h1 h2
      rw [if_pos hc, ← h1, ← h2]
    · cases h
theorem bodyC_pre {q : Rs} {how n k : Nat} {s : Nat × Nat × Nat} {r xs : List UInt8} {q' : Rs} (h : bodyC q how n k s r = some (xs, q')) : ∃ u, r = u ++ q'.r ∧ ∀ t, bodyC q how n k s (u ++ t) = some (xs, ⟨q'.nd, q'.z, q'.ps, t⟩) := by
  unfold bodyC at h
  by_cases hl : r.length < k
  · rw [if_pos hl] at h; cases h
  · rw [if_neg hl] at h
    have hr := packC_r h
    have hk : (r.take k).length = k := by rw [List.length_take]; omega
    refine ⟨r.take k, by rw [hr, List.take_append_drop], fun t => ?_⟩
    unfold bodyC
    rw [if_neg (by rw [List.length_append]; omega), List.take_left' hk, List.drop_left' hk]
    exact packC_rest h
theorem plainC_pre {nd n : Nat} {z : Lzs} {ps : List Nat} {r xs : List UInt8} {q' : Rs} (h : plainC nd z ps r n = some (xs, q')) : ∃ u, r = u ++ q'.r ∧ ∀ t, plainC nd z ps (u ++ t) n = some (xs, ⟨q'.nd, q'.z, q'.ps, t⟩) := by
  unfold plainC at h
  split at h
  · cases h
  · rename_i hc
    injection h with h
    injection h with h1 h2
    have hk : (r.take n).length = n := by rw [List.length_take]; omega
    subst h1 h2
    refine ⟨r.take n, (List.take_append_drop n r).symm, fun t => ?_⟩
    unfold plainC
    rw [if_neg (by rw [List.length_append]; omega), List.take_left' hk, List.drop_left' hk]
theorem packedC_pre {q : Rs} {c : Nat} {r xs : List UInt8} {q' : Rs} (h : packedC q c r = some (xs, q')) : ∃ u, r = u ++ q'.r ∧ ∀ t, packedC q c (u ++ t) = some (xs, ⟨q'.nd, q'.z, q'.ps, t⟩) := by
  match r, h with
  | x :: y :: x2 :: y2 :: r2, h =>
    have h : (if bringsN q.nd (c / 32 - 4) = false then none else if 2 ≤ c / 32 - 4 then (match r2 with | [] => none | v :: r3 => match setN v with | none => none | some s => bodyC q (c / 32 - 4) (c % 32 * 65536 + 256 * x.toNat + y.toNat + 1) (256 * x2.toNat + y2.toNat + 1) s r3)
      else bodyC q (c / 32 - 4) (c % 32 * 65536 + 256 * x.toNat + y.toNat + 1) (256 * x2.toNat + y2.toNat + 1) (q.z.lc, q.z.lp, q.z.pb) r2) = some (xs, q') := h
    by_cases hb : bringsN q.nd (c / 32 - 4) = false
    · rw [if_pos hb] at h; cases h
    · rw [if_neg hb] at h
      by_cases h2 : 2 ≤ c / 32 - 4
      · rw [if_pos h2] at h
        match r2, h with
        | [], h => cases h
        | v :: r3, h =>
          have h : (match setN v with | none => none | some s => bodyC q (c / 32 - 4) (c % 32 * 65536 + 256 * x.toNat + y.toNat + 1) (256 * x2.toNat + y2.toNat + 1) s r3) = some (xs, q') := h
          cases hs : setN v with
          | none => rw [hs] at h; cases h
          | some s =>
            rw [hs] at h
            obtain ⟨u, hu, ht⟩ := bodyC_pre h
            refine ⟨x :: y :: x2 :: y2 :: v :: u, by rw [hu]; rfl, fun t => ?_⟩
            show (if bringsN q.nd (c / 32 - 4) = false then none else if 2 ≤ c / 32 - 4 then (match setN v with | none => none | some s => bodyC q (c / 32 - 4) (c % 32 * 65536 + 256 * x.toNat + y.toNat + 1) (256 * x2.toNat + y2.toNat + 1) s (u ++ t)) else _) = _
            rw [if_neg hb, if_pos h2, hs]
            exact ht t
      · rw [if_neg h2] at h
        obtain ⟨u, hu, ht⟩ := bodyC_pre h
        refine ⟨x :: y :: x2 :: y2 :: u, by rw [hu]; rfl, fun t => ?_⟩
        show (if bringsN q.nd (c / 32 - 4) = false then none else if 2 ≤ c / 32 - 4 then _ else bodyC q (c / 32 - 4) (c % 32 * 65536 + 256 * x.toNat + y.toNat + 1) (256 * x2.toNat + y2.toNat + 1) (q.z.lc, q.z.lp, q.z.pb) (u ++ t)) = _
        rw [if_neg hb, if_neg h2]
        exact ht t
  | [], h => cases h
  | [_], h => cases h
  | [_, _], h => cases h
  | [_, _, _], h => cases h
theorem chunk_one {nd : Nat} {z : Lzs} {ps : List Nat} {c x y : UInt8} {r2 : List UInt8} (h : c.toNat = 1) : chunkN ⟨nd, z, ps, c :: x :: y :: r2⟩ = plainC 6 { z with out := [] } ps r2 (256 * x.toNat + y.toNat + 1) := by
  show (if c.toNat = 1 ∨ c.toNat = 2 then (if c.toNat = 1 then plainC 6 { z with out := [] } ps r2 (256 * x.toNat + y.toNat + 1) else plainC nd z ps r2 (256 * x.toNat + y.toNat + 1)) else (if 128 ≤ c.toNat then packedC ⟨nd, z, ps, c :: x :: y :: r2⟩ c.toNat (x :: y :: r2) else none)) = _
  rw [if_pos (.inl h), if_pos h]
theorem chunk_two {nd : Nat} {z : Lzs} {ps : List Nat} {c x y : UInt8} {r2 : List UInt8} (h : c.toNat = 2) : chunkN ⟨nd, z, ps, c :: x :: y :: r2⟩ = plainC nd z ps r2 (256 * x.toNat + y.toNat + 1) := by
  show (if c.toNat = 1 ∨ c.toNat = 2 then (if c.toNat = 1 then plainC 6 { z with out := [] } ps r2 (256 * x.toNat + y.toNat + 1) else plainC nd z ps r2 (256 * x.toNat + y.toNat + 1)) else (if 128 ≤ c.toNat then packedC ⟨nd, z, ps, c :: x :: y :: r2⟩ c.toNat (x :: y :: r2) else none)) = _
  rw [if_pos (.inr h), if_neg (by omega)]
theorem chunk_short {nd : Nat} {z : Lzs} {ps : List Nat} {c : UInt8} {r : List UInt8} (h : c.toNat = 1 ∨ c.toNat = 2) (hr : r.length < 2) : chunkN ⟨nd, z, ps, c :: r⟩ = none := by
  match r, hr with
  | [], _ =>
    show (if c.toNat = 1 ∨ c.toNat = 2 then none else (if 128 ≤ c.toNat then packedC ⟨nd, z, ps, [c]⟩ c.toNat [] else none)) = _
    rw [if_pos h]
  | [x], _ =>
    show (if c.toNat = 1 ∨ c.toNat = 2 then none else (if 128 ≤ c.toNat then packedC ⟨nd, z, ps, [c, x]⟩ c.toNat [x] else none)) = _
    rw [if_pos h]
  | _ :: _ :: _, hr => simp at hr; omega
theorem chunk_more {nd : Nat} {z : Lzs} {ps : List Nat} {c : UInt8} {r : List UInt8} (h : ¬ (c.toNat = 1 ∨ c.toNat = 2)) : chunkN ⟨nd, z, ps, c :: r⟩ = if 128 ≤ c.toNat then packedC ⟨nd, z, ps, c :: r⟩ c.toNat r else none := by
  unfold chunkN
  show (if c.toNat = 1 ∨ c.toNat = 2 then _ else if 128 ≤ c.toNat then packedC ⟨nd, z, ps, c :: r⟩ c.toNat r else none) = _
  rw [if_neg h]
/-- a chunk is told alike, whatever comes behind it -/
theorem chunk_pre {nd : Nat} {z : Lzs} {ps : List Nat} {r xs : List UInt8} {q' : Rs} (h : chunkN ⟨nd, z, ps, r⟩ = some (xs, q')) : ∃ u, r = u ++ q'.r ∧ ∀ t, chunkN ⟨nd, z, ps, u ++ t⟩ = some (xs, ⟨q'.nd, q'.z, q'.ps, t⟩) := by
  cases r with
  | nil => cases h
  | cons c r1 =>
    by_cases hc : c.toNat = 1 ∨ c.toNat = 2
    · by_cases hl : r1.length < 2
      · rw [chunk_short hc hl] at h; cases h
      · obtain ⟨x, y, r2, rfl⟩ : ∃ x y r2, r1 = x :: y :: r2 := by
          match r1, hl with
          | [], hl => exact absurd (show 0 < 2 by decide) hl
          | [_], hl => exact absurd (show 1 < 2 by decide) hl
          | x :: y :: r2, _ => exact ⟨x, y, r2, rfl⟩
        rcases hc with hc | hc
        · rw [chunk_one hc] at h
          obtain ⟨u, hu, ht⟩ := plainC_pre h
          refine ⟨c :: x :: y :: u, by rw [hu]; rfl, fun t => ?_⟩
          show chunkN ⟨nd, z, ps, c :: x :: y :: (u ++ t)⟩ = _
          rw [chunk_one hc]
          exact ht t
        · rw [chunk_two hc] at h
          obtain ⟨u, hu, ht⟩ := plainC_pre h
          refine ⟨c :: x :: y :: u, by rw [hu]; rfl, fun t => ?_⟩
          show chunkN ⟨nd, z, ps, c :: x :: y :: (u ++ t)⟩ = _
          rw [chunk_two hc]
          exact ht t
    · rw [chunk_more hc] at h
      by_cases h8 : 128 ≤ c.toNat
      · rw [if_pos h8] at h
        obtain ⟨u, hu, ht⟩ := packedC_pre h
        refine ⟨c :: u, by rw [hu]; rfl, fun t => ?_⟩
        show chunkN ⟨nd, z, ps, c :: (u ++ t)⟩ = _
        rw [chunk_more hc, if_pos h8]
        exact ht t
      · rw [if_neg h8] at h
        cases h

/-- states that chunks may leave, of one dictionary -/
structure Sok (D : Nat) (q : Rs) : Prop where
  nd : q.nd = 0 ∨ q.nd = 6 ∨ q.nd = 7
  dict : q.z.dict = D
  bad : q.z.bad = false
  ended : q.z.ended = false
theorem upG_fine {N : Int} : ∀ (f : Nat) {z z2 : Lzs} {t t2 : Pm Dc}, z.bad = false → z.ended = false → upG N f z t = some (z2, t2) → z2.bad = false ∧ z2.ended = false
  | 0, z, z2, t, t2, hb, he, h => by
    injection h with h
    injection h with h1 h2
    subst h1
    exact ⟨hb, he⟩
  | f + 1, z, z2, t, t2, hb, he, h => by
    by_cases hl : (z.out.length : Int) < N
    · by_cases hs : stopD N (packP decM z t pk0) = true
      · rw [upG_stop hl hs] at h; cases h
      · rw [upG_go hl hs] at h
        have hs : stopD N (packP decM z t pk0) = false := by simpa using hs
        unfold stopD at hs
        simp only [Bool.or_eq_false_iff] at hs
        exact upG_fine f hs.1 hs.2.1 h
    · rw [upG_done hl] at h
      injection h with h
      injection h with h1 h2
      subst h1
      exact ⟨hb, he⟩
theorem brought_fine (z : Lzs) (how : Nat) (s : Nat × Nat × Nat) : (z.brought how s).dict = z.dict ∧ (z.brought how s).bad = z.bad ∧ (z.brought how s).ended = z.ended := by
  unfold Lzs.brought
  split
  · exact ⟨rfl, rfl, rfl⟩
  · split
    · exact ⟨rfl, rfl, rfl⟩
    · exact ⟨rfl, rfl, rfl⟩
theorem bodyC_ok {D : Nat} {q : Rs} {how n k : Nat} {s : Nat × Nat × Nat} {r xs : List UInt8} {q' : Rs} (hq : Sok D q) (h : bodyC q how n k s r = some (xs, q')) : Sok D q' := by
  unfold bodyC at h
  split at h
  · cases h
  · obtain ⟨b1, b2, b3⟩ := brought_fine q.z how s
    unfold packC at h
    cases hu : upG (((q.z.brought how s).out.length + n : Nat) : Int) n (q.z.brought how s) ⟨psN q.ps how s, started (r.take k)⟩ with
    | none => rw [hu] at h; cases h
    | some p =>
      obtain ⟨z2, t2⟩ := p
      rw [hu] at h
      have h : (if leftD t2.x = true ∧ z2.out.length = (q.z.brought how s).out.length + n then some (z2.out.drop ((q.z.brought how s).out.length + n - n), (⟨0, z2, t2.ps, r.drop k⟩ : Rs)) else none) = some (xs, q') := h
      split at h
      · injection h with h
        injection h with h1 h2
        rw [← h2]
        obtain ⟨f1, f2⟩ := upG_fine _ (b2.trans hq.bad) (b3.trans hq.ended) hu
        exact ⟨.inl rfl, (upG_onw _ hu).dict.trans (b1.trans hq.dict), f1, f2⟩
      · cases h
end Go.Proofs.YtoencondpbkomaaGreatDoor

/-
  Two streams of LZMA2, one behind the other: what they tell.
-/
namespace Go.Proofs.YtoencondpbkomaaGreatDoor
set_option linter.unusedVariables false

theorem bodyC_same {q1 q2 : Rs} {how n k : Nat} {s : Nat × Nat × Nat} {r : List UInt8} (h1 : q1.z.brought how s = q2.z.brought how s) (h2 : psN q1.ps how s = psN q2.ps how s) : bodyC q1 how n k s r = bodyC q2 how n k s r := by
  unfold bodyC
  rw [h1, h2]
/-- the cases of a packed chunk that is told -/
theorem packedC_cases {q : Rs} {c : Nat} {r xs : List UInt8} {q' : Rs} (h : packedC q c r = some (xs, q')) : bringsN q.nd (c / 32 - 4) = true ∧ ∃ n k s r3, bodyC q (c / 32 - 4) n k s r3 = some (xs, q') ∧
    (∀ q1 : Rs, bringsN q1.nd (c / 32 - 4) = true → (2 ≤ c / 32 - 4 ∨ (q1.z.lc = q.z.lc ∧ q1.z.lp = q.z.lp ∧ q1.z.pb = q.z.pb)) → packedC q1 c r = bodyC q1 (c / 32 - 4) n k s r3) := by
  have hb : bringsN q.nd (c / 32 - 4) = true := by
    cases hb : bringsN q.nd (c / 32 - 4) with
    | true => rfl
    | false => rw [packedC_needs hb] at h; cases h
  refine ⟨hb, ?_⟩
  by_cases hl : r.length < 4
  · rw [packedC_short hl] at h; cases h
  · obtain ⟨x, y, x2, y2, r2, rfl⟩ : ∃ x y x2 y2 r2, r = x :: y :: x2 :: y2 :: r2 := by
      match r, hl with
      | [], hl => exact absurd (show 0 < 4 by decide) hl
      | [_], hl => exact absurd (show 1 < 4 by decide) hl
      | [_, _], hl => exact absurd (show 2 < 4 by decide) hl
      | [_, _, _], hl => exact absurd (show 3 < 4 by decide) hl
      | x :: y :: x2 :: y2 :: r2, _ => exact ⟨x, y, x2, y2, r2, rfl⟩
    by_cases h2 : 2 ≤ c / 32 - 4
    · cases r2 with
      | nil => rw [packedC_dry h2] at h; cases h
      | cons v r3 =>
        rw [packedC_set hb h2] at h
        cases hs : setN v with
        | none => rw [hs] at h; cases h
        | some s =>
          rw [hs] at h
          refine ⟨_, _, s, r3, h, fun q1 hq1 _ => ?_⟩
          rw [packedC_set hq1 h2, hs]
    · rw [packedC_keep hb h2] at h
      refine ⟨_, _, _, r2, h, fun q1 hq1 he => ?_⟩
      rw [packedC_keep hq1 h2]
      rcases he with he | ⟨e1, e2, e3⟩
      · exact absurd he h2
      · rw [e1, e2, e3]
theorem plainC_ok {D nd n : Nat} {z : Lzs} {ps : List Nat} {r xs : List UInt8} {q' : Rs} (hn : nd = 0 ∨ nd = 6 ∨ nd = 7) (hd : z.dict = D) (hb : z.bad = false) (he : z.ended = false) (h : plainC nd z ps r n = some (xs, q')) : Sok D q' := by
  unfold plainC at h
  split at h
  · cases h
  · injection h with h
    injection h with h1 h2
    rw [← h2]
    exact ⟨hn, hd, hb, he⟩
theorem chunk_ok {D : Nat} {q : Rs} {xs : List UInt8} {q' : Rs} (hq : Sok D q) (h : chunkN q = some (xs, q')) : Sok D q' := by
  obtain ⟨nd, z, ps, r⟩ := q
  cases r with
  | nil => cases h
  | cons c r1 =>
    by_cases hc : c.toNat = 1 ∨ c.toNat = 2
    · by_cases hl : r1.length < 2
      · rw [chunk_short hc hl] at h; cases h
      · obtain ⟨x, y, r2, rfl⟩ : ∃ x y r2, r1 = x :: y :: r2 := by
          match r1, hl with
          | [], hl => exact absurd (show 0 < 2 by decide) hl
          | [_], hl => exact absurd (show 1 < 2 by decide) hl
          | x :: y :: r2, _ => exact ⟨x, y, r2, rfl⟩
        rcases hc with hc | hc
        · rw [chunk_one hc] at h
          exact plainC_ok (z := { z with out := [] }) (.inr (.inl rfl)) hq.dict hq.bad hq.ended h
        · rw [chunk_two hc] at h
          exact plainC_ok hq.nd hq.dict hq.bad hq.ended h
    · rw [chunk_more hc] at h
      by_cases h8 : 128 ≤ c.toNat
      · rw [if_pos h8] at h
        obtain ⟨_, n, k, s, r3, hb, _⟩ := packedC_cases h
        exact bodyC_ok hq hb
      · rw [if_neg h8] at h
        cases h
/-- q1 stands where q2 stands, as far as what is not brought anew -/
structure Sim2 (D : Nat) (q1 q2 : Rs) : Prop where
  o1 : Sok D q1
  o2 : Sok D q2
  r : q1.r = q2.r
  c : q2.nd = 7 ∨ (q2.nd = 6 ∧ q1.nd = 6 ∧ q1.z.out = q2.z.out) ∨ q1 = q2
theorem anew_same {z1 z2 : Lzs} {a b c : Nat} (hd : z1.dict = z2.dict) (hb : z1.bad = z2.bad) (he : z1.ended = z2.ended) (ho : z1.out = z2.out) : z1.anew a b c = z2.anew a b c := by
  unfold Lzs.anew
  cases z1
  cases z2
  simp at hd hb he ho
  simp [hd, hb, he, ho]
theorem sim_chunk {D : Nat} {q1 q2 : Rs} {xs : List UInt8} {q2' : Rs} (hs : Sim2 D q1 q2) (h : chunkN q2 = some (xs, q2')) : ∃ q1', chunkN q1 = some (xs, q1') ∧ Sim2 D q1' q2' := by
  have ok2 := chunk_ok hs.o2 h
  rcases hs.c with h7 | h6 | rfl
  case inr.inr => exact ⟨q2', h, ok2, ok2, rfl, .inr (.inr rfl)⟩
  all_goals
    have key : ∃ q1', chunkN q1 = some (xs, q1') ∧ q1'.r = q2'.r ∧ (q2'.nd = 7 ∨ (q2'.nd = 6 ∧ q1'.nd = 6 ∧ q1'.z.out = q2'.z.out) ∨ q1' = q2') := by
      obtain ⟨nd1, z1, ps1, r1⟩ := q1
      obtain ⟨nd2, z2, ps2, r⟩ := q2
      obtain rfl : r1 = r := hs.r
      have hd : z1.dict = z2.dict := hs.o1.dict.trans hs.o2.dict.symm
      have hb : z1.bad = z2.bad := hs.o1.bad.trans hs.o2.bad.symm
      have he : z1.ended = z2.ended := hs.o1.ended.trans hs.o2.ended.symm
      have hn1 := hs.o1.nd
      cases r1 with
      | nil => cases h
      | cons c r1 =>
        by_cases hc : c.toNat = 1 ∨ c.toNat = 2
        · by_cases hl : r1.length < 2
          · rw [chunk_short hc hl] at h; cases h
          · obtain ⟨x, y, r2, rfl⟩ : ∃ x y r2, r1 = x :: y :: r2 := by
              match r1, hl with
              | [], hl => exact absurd (show 0 < 2 by decide) hl
              | [_], hl => exact absurd (show 1 < 2 by decide) hl
              | x :: y :: r2, _ => exact ⟨x, y, r2, rfl⟩
            rcases hc with hc | hc
            · rw [chunk_one hc] at h ⊢
              unfold plainC at h ⊢
              split at h
              · cases h
              · rename_i hcc
                rw [if_neg hcc]
                injection h with h
                injection h with e1 e2
                subst e1 e2
                exact ⟨_, rfl, rfl, .inr (.inl ⟨rfl, rfl, rfl⟩)⟩
            · rw [chunk_two hc] at h ⊢
              unfold plainC at h ⊢
              split at h
              · cases h
              · rename_i hcc
                injection h with h
                injection h with e1 e2
                subst e1 e2
                first
                  | (exfalso
                     have h7 : nd2 = 7 := h7
                     exact hcc (.inl (by omega)))
                  | (obtain ⟨g1, g2, g3⟩ := h6
                     have g1 : nd2 = 6 := g1
                     have g2 : nd1 = 6 := g2
                     have g3 : z1.out = z2.out := g3
                     rw [if_neg (by omega)]
                     refine ⟨_, rfl, rfl, .inr (.inl ⟨g1, g2, ?_⟩)⟩
                     show z1.out ++ _ = z2.out ++ _
                     rw [g3])
        · rw [chunk_more hc] at h ⊢
          by_cases h8 : 128 ≤ c.toNat
          · rw [if_pos h8] at h ⊢
            obtain ⟨hbr, n, k, s, r3, hbd, hall⟩ := packedC_cases h
            have hbr : bringsN nd2 (c.toNat / 32 - 4) = true := hbr
            have hhow : c.toNat / 32 - 4 = 3 ∨ (nd2 = 6 ∧ 2 ≤ c.toNat / 32 - 4) := by
              unfold bringsN at hbr
              have := of_decide_eq_true hbr
              first
                | (have h7 : nd2 = 7 := h7
                   omega)
                | (have g1 : nd2 = 6 := h6.1
                   omega)
            have hb1 : bringsN nd1 (c.toNat / 32 - 4) = true := by
              unfold bringsN
              refine decide_eq_true ?_
              first
                | (have h7 : nd2 = 7 := h7
                   omega)
                | (have g1 : nd1 = 6 := h6.2.1
                   omega)
            have hps : psN ps1 (c.toNat / 32 - 4) s = psN ps2 (c.toNat / 32 - 4) s := by
              unfold psN
              rw [if_neg (by omega), if_neg (by omega)]
            have hz : z1.brought (c.toNat / 32 - 4) s = z2.brought (c.toNat / 32 - 4) s := by
              unfold Lzs.brought
              by_cases h3 : c.toNat / 32 - 4 = 3
              · rw [if_pos h3, if_pos h3]
                exact anew_same hd hb he rfl
              · rw [if_neg h3, if_neg h3, if_neg (by omega), if_neg (by omega)]
                first
                  | (exfalso
                     have h7 : nd2 = 7 := h7
                     omega)
                  | exact anew_same hd hb he h6.2.2
            rw [hall ⟨nd1, z1, ps1, c :: r1⟩ hb1 (.inl (by omega))]
            refine ⟨q2', ?_, rfl, .inr (.inr rfl)⟩
            rw [← hbd]
            exact bodyC_same hz hps
          · rw [if_neg h8] at h
            cases h
    obtain ⟨q1', k1, k2, k3⟩ := key
    exact ⟨q1', k1, chunk_ok hs.o1 k1, ok2, k2, k3⟩
theorem sim_tells {D : Nat} : ∀ (f : Nat) {q1 q2 : Rs} {k : Nat} {y : List UInt8}, Sim2 D q1 q2 → telN f q2 k = some y → telN f q1 k = some y
  | 0, _, _, _, _, _, h => by cases h
  | f + 1, q1, q2, k, y, hs, h => by
    unfold telN at h ⊢
    rw [hs.r]
    by_cases hr : q2.r = [0]
    · rw [if_pos hr] at h ⊢
      exact h
    · rw [if_neg hr] at h ⊢
      cases hc : chunkN q2 with
      | none => rw [hc] at h; cases h
      | some p =>
        obtain ⟨xs, q2'⟩ := p
        rw [hc] at h
        obtain ⟨q1', h1, hs'⟩ := sim_chunk hs hc
        rw [h1]
        have h : (if xs.length ≤ k then (telN f q2' (k - xs.length)).map (xs ++ ·) else none) = some y := h
        show (if xs.length ≤ k then (telN f q1' (k - xs.length)).map (xs ++ ·) else none) = some y
        split at h
        · rename_i hk
          rw [if_pos hk]
          cases h2 : telN f q2' (k - xs.length) with
          | none => rw [h2] at h; cases h
          | some u =>
            rw [h2] at h
            rw [sim_tells f hs' h2]
            exact h
        · cases h
/-- the first's end is cut off, the second comes behind it -/
theorem join_tells {D k : Nat} {b y : List UInt8} : ∀ (f : Nat) {q : Rs} {n : Nat} {x : List UInt8}, telN f q n = some x → Sok D q → (∀ q1 : Rs, Sok D q1 → q1.r = b → q1.tells k = some y) → ∃ a0, q.r = a0 ++ [0] ∧ (⟨q.nd, q.z, q.ps, a0 ++ b⟩ : Rs).tells (n + k) = some (x ++ y)
  | 0, _, _, _, h, _, _ => by cases h
  | f + 1, q, n, x, h, hq, hB => by
    unfold telN at h
    by_cases hr : q.r = [0]
    · rw [if_pos hr] at h
      split at h
      · rename_i hn
        injection h with h
        subst hn h
        refine ⟨[], hr, ?_⟩
        show (⟨q.nd, q.z, q.ps, b⟩ : Rs).tells (0 + k) = some y
        rw [Nat.zero_add]
        exact hB ⟨q.nd, q.z, q.ps, b⟩ ⟨hq.nd, hq.dict, hq.bad, hq.ended⟩ rfl
      · cases h
    · rw [if_neg hr] at h
      cases hc : chunkN q with
      | none => rw [hc] at h; cases h
      | some p =>
        obtain ⟨xs, q'⟩ := p
        rw [hc] at h
        have h : (if xs.length ≤ n then (telN f q' (n - xs.length)).map (xs ++ ·) else none) = some x := h
        split at h
        · rename_i hk
          cases h2 : telN f q' (n - xs.length) with
          | none => rw [h2] at h; cases h
          | some u =>
            rw [h2] at h
            have h : some (xs ++ u) = some x := h
            injection h with h
            subst h
            obtain ⟨a0, ha, ht⟩ := join_tells f h2 (chunk_ok hq hc) hB
            obtain ⟨nd, z, ps, r⟩ := q
            obtain ⟨v, hv, hall⟩ := chunk_pre hc
            have hv : r = v ++ q'.r := hv
            refine ⟨v ++ a0, by show r = _; rw [hv, ha, List.append_assoc], ?_⟩
            have hch : chunkN ⟨nd, z, ps, v ++ (a0 ++ b)⟩ = some (xs, ⟨q'.nd, q'.z, q'.ps, a0 ++ b⟩) := hall (a0 ++ b)
            have hne : (⟨nd, z, ps, v ++ (a0 ++ b)⟩ : Rs).r ≠ [0] := by
              intro e
              have e : v ++ (a0 ++ b) = [0] := e
              rw [e] at hch
              cases hch
            have hg := tells_some (k := n + k) hne hch (by omega)
            show (⟨nd, z, ps, v ++ a0 ++ b⟩ : Rs).tells (n + k) = _
            rw [List.append_assoc, hg, show n + k - xs.length = n - xs.length + k by omega, ht]
            show some (xs ++ (u ++ y)) = _
            rw [List.append_assoc]
        · cases h
theorem streams_join {L D n k : Nat} {a b x y : List UInt8} (ha : (rs0 L D a).tells n = some x) (hb : (rs0 L D b).tells k = some y) : ∃ a0, a = a0 ++ [0] ∧ (rs0 L D (a0 ++ b)).tells (n + k) = some (x ++ y) := by
  have h0 : ∀ r, Sok D (rs0 L D r) := fun r => ⟨.inr (.inr rfl), rfl, rfl, rfl⟩
  obtain ⟨a0, h1, h2⟩ := join_tells (D := D) (b := b) (y := y) (k := k) _ ha (h0 a) (fun q1 hq1 hr => by
    have hs : Sim2 D q1 (rs0 L D b) := ⟨hq1, h0 b, hr, .inl rfl⟩
    unfold Rs.tells at hb ⊢
    rw [hr]
    exact sim_tells _ hs hb)
  exact ⟨a0, h1, h2⟩
end Go.Proofs.YtoencondpbkomaaGreatDoor
