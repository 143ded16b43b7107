/-
  ZqHdN, ZqBeg0: put together.
-/
import Derived.Test.YtoencondpbkomaaGreatDoorT26
set_option linter.unusedVariables false
set_option linter.unusedSimpArgs false
/-
  The head of a packed chunk, as numbers.
-/
namespace Go.Proofs.YtoencondpbkomaaGreatDoor
open Go.RowKit
set_option linter.unusedVariables false

theorem lq_rd {s : Ds} {x : UInt8} {r o : List UInt8} (h : s.src = true) : (⟨s, x :: r, o⟩ : Lq).rd = ⟨s, r, o⟩ := rd_more h rfl
theorem lq_b {s : Ds} {x : UInt8} {r o : List UInt8} (h : s.src = true) : (⟨s, x :: r, o⟩ : Lq).b = x := b_more h rfl
theorem lq_dry {s : Ds} {o : List UInt8} (h : s.src = true) : (⟨s, [], o⟩ : Lq).rd = ⟨s.fail, [], o⟩ := rd_fail h rfl
theorem lq_off {q : Lq} (h : q.s.src = false) : q.rd.s.src = false := by rw [rd_none h]; exact h
/-- two bytes are read, or it is bad -/
theorem two_cases {s : Ds} {r o : List UInt8} (h : s.src = true) :
    (∃ x y r2, r = x :: y :: r2 ∧ (⟨s, r, o⟩ : Lq).two = ⟨s, r2, o⟩ ∧ (⟨s, r, o⟩ : Lq).count = 256 * x.toNat + y.toNat + 1) ∨ (r.length < 2 ∧ (⟨s, r, o⟩ : Lq).two = ⟨s.fail, [], o⟩) := by
  match r with
  | [] =>
    right
    refine ⟨by decide, ?_⟩
    unfold Lq.two
    rw [lq_dry h, rd_none rfl]
  | [x] =>
    right
    refine ⟨show 1 < 2 by decide, ?_⟩
    unfold Lq.two
    rw [lq_rd h, lq_dry h]
  | x :: y :: r2 =>
    left
    refine ⟨x, y, r2, rfl, ?_, ?_⟩
    · unfold Lq.two
      rw [lq_rd h, lq_rd h]
    · unfold Lq.count
      rw [lq_b h, lq_rd h, lq_b h]
      omega
theorem two_off {q : Lq} (h : q.s.src = false) : q.two = q := by
  unfold Lq.two
  rw [rd_none h, rd_none h]
/-- the two counts of a packed chunk's head are read, or it is bad -/
theorem four_cases {s : Ds} {r : List UInt8} (h : s.src = true) :
    (∃ x y x2 y2 r2, r = x :: y :: x2 :: y2 :: r2 ∧ (⟨s, r, []⟩ : Lq).two.two = ⟨s, r2, []⟩ ∧ (⟨s, r, []⟩ : Lq).count = 256 * x.toNat + y.toNat + 1 ∧ (⟨s, r, []⟩ : Lq).two.count = 256 * x2.toNat + y2.toNat + 1) ∨ (r.length < 4 ∧ (⟨s, r, []⟩ : Lq).two.two = ⟨s.fail, [], []⟩) := by
  rcases two_cases (r := r) (o := []) h with ⟨x, y, r2, rfl, e1, e2⟩ | ⟨e1, e2⟩
  · rcases two_cases (r := r2) (o := []) h with ⟨x2, y2, r3, rfl, e3, e4⟩ | ⟨e3, e4⟩
    · exact .inl ⟨x, y, x2, y2, r3, rfl, by rw [e1, e3], e2, by rw [e1]; exact e4⟩
    · exact .inr ⟨by simp; omega, by rw [e1, e4]⟩
  · exact .inr ⟨by omega, by rw [e2, two_off rfl]⟩
theorem packedC_short {q : Rs} {c : Nat} {r : List UInt8} (h : r.length < 4) : packedC q c r = none := by
  unfold packedC
  match r, h with
  | [], _ => rfl
  | [_], _ => rfl
  | [_, _], _ => rfl
  | [_, _, _], _ => rfl
  | _ :: _ :: _ :: _ :: r2, h => simp at h; omega
theorem packedC_needs {q : Rs} {c : Nat} {r : List UInt8} (h : bringsN q.nd (c / 32 - 4) = false) : packedC q c r = none := by
  unfold packedC
  split
  · rw [if_pos h]
  · rfl
theorem packedC_set {q : Rs} {c : Nat} {x y x2 y2 v : UInt8} {r : List UInt8} (h : bringsN q.nd (c / 32 - 4) = true) (h2 : 2 ≤ c / 32 - 4) :
    packedC q c (x :: y :: x2 :: y2 :: v :: r) = match setN v with
      | none => none
      | some s => bodyC q (c / 32 - 4) (c % 32 * 65536 + 256 * x.toNat + y.toNat + 1) (256 * x2.toNat + y2.toNat + 1) s r := by
  show (if bringsN q.nd (c / 32 - 4) = false then none else if 2 ≤ c / 32 - 4 then _ else _) = _
  rw [if_neg (by rw [h]; decide), if_pos h2]
  rfl
theorem packedC_dry {q : Rs} {c : Nat} {x y x2 y2 : UInt8} (h2 : 2 ≤ c / 32 - 4) : packedC q c [x, y, x2, y2] = none := by
  unfold packedC
  show (if bringsN q.nd (c / 32 - 4) = false then none else if 2 ≤ c / 32 - 4 then none else _) = _
  split <;> first | rfl | (rw [if_pos h2]; done)
theorem packedC_keep {q : Rs} {c : Nat} {x y x2 y2 : UInt8} {r : List UInt8} (h : bringsN q.nd (c / 32 - 4) = true) (h2 : ¬ 2 ≤ c / 32 - 4) :
    packedC q c (x :: y :: x2 :: y2 :: r) = bodyC q (c / 32 - 4) (c % 32 * 65536 + 256 * x.toNat + y.toNat + 1) (256 * x2.toNat + y2.toNat + 1) (q.z.lc, q.z.lp, q.z.pb) r := by
  show (if bringsN q.nd (c / 32 - 4) = false then none else if 2 ≤ c / 32 - 4 then _ else _) = _
  rw [if_neg (by rw [h]; decide), if_neg h2]
/-- the chunk's packets begin -/
theorem bodyC_pack {q : Rs} {how n m k : Nat} {s : Nat × Nat × Nat} {r : List UInt8} (hn : 1 ≤ n) (hr : q.r ≠ [0]) (hc : chunkN q = bodyC q how n m s r) :
    (St2.rest q).tells k = (St2.pack (q.z.brought how s) ⟨psN q.ps how s, started (r.take m)⟩ (q.z.brought how s).out.length n (decide (m ≤ r.length)) (r.drop m)).tells k := by
  show q.tells k = _
  rw [tells_chunk hr, hc]
  unfold bodyC
  by_cases h : r.length < m
  · rw [if_pos h, decide_eq_false (by omega)]
    rfl
  · rw [if_neg h, decide_eq_true (by omega), pack_full]
    rfl
theorem chunk_packed {q : Rs} {c : UInt8} {r : List UInt8} (h : q.r = c :: r) (hc : 128 ≤ c.toNat) : chunkN q = packedC q c.toNat r := by
  unfold chunkN
  rw [h]
  show (if c.toNat = 1 ∨ c.toNat = 2 then _ else if 128 ≤ c.toNat then packedC q c.toNat r else none) = _
  rw [if_neg (by omega), if_pos hc]
theorem head_ne {q : Rs} {c : UInt8} {r : List UInt8} (h : q.r = c :: r) (hc : 1 ≤ c.toNat) : q.r ≠ [0] := by
  rw [h]
  intro e
  injection e with e1 e2
  rw [e1] at hc
  exact absurd hc (by decide)
theorem rest_bad {q : Rs} {k : Nat} (h : q.r ≠ [0]) (hc : chunkN q = none) : (St2.rest q).tells k = St2.bad.tells k := tells_none h hc
/-- whether all is brought that is needed, by bits -/
theorem needs_bits {nd how : Nat} (hn : nd = 0 ∨ nd = 6 ∨ nd = 7) (hh : how < 4) : ∃ v : Nat, bits .andNot .u8 (nd : Int) (bringN how : Int) = (v : Int) ∧ (v = 0 ↔ bringsN nd how = true) := by
  have h4 : how = 0 ∨ how = 1 ∨ how = 2 ∨ how = 3 := by omega
  rcases hn with rfl | rfl | rfl <;> rcases h4 with rfl | rfl | rfl | rfl
  · exact ⟨0, by decide, by decide⟩
  · exact ⟨0, by decide, by decide⟩
  · exact ⟨0, by decide, by decide⟩
  · exact ⟨0, by decide, by decide⟩
  · exact ⟨6, by decide, by decide⟩
  · exact ⟨2, by decide, by decide⟩
  · exact ⟨0, by decide, by decide⟩
  · exact ⟨0, by decide, by decide⟩
  · exact ⟨7, by decide, by decide⟩
  · exact ⟨3, by decide, by decide⟩
  · exact ⟨1, by decide, by decide⟩
  · exact ⟨0, by decide, by decide⟩
theorem set_bits {how : Nat} (hh : how < 4) : ∃ v : Nat, bits .and .u8 (bringN how : Int) 2 = (v : Int) ∧ (v = 0 ↔ how < 2) := by
  have h4 : how = 0 ∨ how = 1 ∨ how = 2 ∨ how = 3 := by omega
  rcases h4 with rfl | rfl | rfl | rfl
  · exact ⟨0, by decide, by decide⟩
  · exact ⟨0, by decide, by decide⟩
  · exact ⟨2, by decide, by decide⟩
  · exact ⟨2, by decide, by decide⟩
end Go.Proofs.YtoencondpbkomaaGreatDoor

/-
  The decoder of LZMA2: its decoder of packets begins over a packed chunk's bytes.
-/
namespace Go.Proofs.YtoencondpbkomaaGreatDoor
open Go.RowKit
set_option linter.unusedVariables false

section
variable {K0 : Kon} {d f lo D : Nat} {all r : List UInt8} {w w' : World} {Gw ex : Nat → Prop} {s : Ds} {z : Lzs} {ps : List Nat}
theorem lzs_off {z : Lzs} (h1 : z.bad = false) (h2 : z.ended = false) : ({ z with ended := false, bad := false } : Lzs) = z := by
  cases z
  simp at h1 h2
  simp [h1, h2]
theorem zq_begin {a m p l : Nat} (hx : Q2x K0 d f lo w Gw ex) (h : Idl K0 d f lo all w Gw s r z ps) (hs1 : s.src = true) (hs2 : s.ended = false) (hs3 : s.nd = 0) (hs4 : s.left = l) (hs5 : s.pk = some p) (hl : 1 ≤ l ∧ l ≤ 2097152)
    (ha : s.a0 = (z.lc : Int) ∧ s.a1 = (z.lp : Int) ∧ s.a2 = (z.pb : Int)) (hp : PkAt p f lo all a m w ((all.drop a).take m) 0) (hpf : f < p ∧ p < w.heap.size) (hgp : ∀ i, Gw i → i ≠ p)
    (hn : ZNear z ps.length z.out.length) (hps : PsOk ps) (hb : z.bad = false) (he : z.ended = false) (hd : z.dict = D) (h4 : z.lc + z.lp ≤ 4) :
    Calls Tryz.prog 103 #[.pointer (some ⟨K0.g, 0, none⟩), .iface 103 (.pointer (some ⟨p, 0, none⟩))] w
      (fun e w' => Q2Post K0 d f lo all D w Gw (fun i => i = p) (.tuple #[]) (.pack z ⟨ps, started ((all.drop a).take m)⟩ z.out.length l (decide (a + m ≤ all.length)) (all.drop (a + m))) e w' ∧ Blk w' d 105 (d2Cells K0.g f s)) := by
  obtain ⟨K, v4, v5, v16, v17, v18, hk, hr⟩ := h.rs
  have g1 := hx.gl
  have g2 := hx.ll
  have g3 := hx.dl
  have g4 := hx.lf
  have g5 := hx.ml
  have hpl : ps.length = 1847 + K.nl := hr.row.2.2
  have hold0 : ∀ i, i < lo → ¬ (pkSc p f lo all a m).hold i := fun i hi e => by
    rcases e with e | e
    · omega
    · omega
  have hB := zbegin_any (S := pkSc p f lo all a m) (bs := (all.drop a).take m) (pk_ok g4) hr (by rw [← hpl]; exact hn) hps hp (hold0 _ (by rw [hk.g]; omega)) (hold0 _ (by rw [hk.lb]; omega)) (hold0 _ (by rw [hk.m]; omega))
    (fun i hi e => by
      have := hx.wd i hi
      have := hgp i hi
      rcases e with e | e
      · omega
      · omega)
  rw [hk.g] at hB
  refine hB.mono ?_
  rintro e w' ⟨rfl, hN, hO⟩
  rw [lzs_off hb he] at hN
  have hdg := hN.lw.mch.pd.lt
  have hturn : ∀ i, (i = K0.g ∨ (pkSc p f lo all a m).turn i) → i = K0.g ∨ i = p ∨ i = f := fun i hi => hi
  have hdn : ¬ (d = K0.g ∨ (pkSc p f lo all a m).turn d) := fun e => by
    rcases hturn d e with e | e | e
    · exact hx.dg.1 e
    · omega
    · omega
  have h0n : ¬ (0 = K0.g ∨ (pkSc p f lo all a m).turn 0) := fun e => by
    rcases hturn 0 e with e | e | e <;> omega
  refine ⟨⟨rfl, Gw, fun i => i = p ∨ i = w.heap.size, ?_, hx.turn (fun i hi => .inl hi) (fun i hi => ?_) hO h0n, fun i hi => ?_, hO.mono (fun i hi => ?_)⟩, h.rd.blk.only hO hdn⟩
  · exact ⟨K.on w.heap.size (pkSc p f lo all a m) ((all.drop a).take m), s, p, a, m, hk.trans (Ks.on K _ _ _), h.rd.blk.only hO hdn, hs1, hs2, hs3, hs4, hs5, hl.1, hl.2, ha, rfl, rfl, rfl, rfl, hN, hd, h4, .inl rfl, .inr rfl, hpf.1⟩
  · rcases hi with rfl | rfl
    · exact ⟨hpf.1, Nat.lt_of_lt_of_le hpf.2 hO.size⟩
    · exact ⟨by omega, hdg⟩
  · rcases hi with hi | hi | hi
    · exact .inl (.inl hi)
    · exact .inl (.inr hi)
    · exact .inr (Nat.le_of_eq hi.symm)
  · rcases hturn i hi with e | e | e
    · exact .inr (.inr (.inl e))
    · exact .inr (.inr (.inr (.inr (.inr e))))
    · exact .inr (.inl e)
theorem Q2Post.trans {w1 : World} {G1 ex1 : Nat → Prop} {v : Value} {st : St2} {e : Ending} (hG : ∀ i, G1 i ∨ ex1 i → (Gw i ∨ ex i) ∨ w.heap.size ≤ i) (hO : Only (own2 K0 d f Gw ex) w w1) (h' : Q2Post K0 d f lo all D w1 G1 ex1 v st e w') : Q2Post K0 d f lo all D w Gw ex v st e w' := by
  obtain ⟨he, G2, ex2, a1, a2, a3, a4⟩ := h'
  have hs := hO.size
  refine ⟨he, G2, ex2, a1, a2, fun i hi => ?_, hO.trans' a4 (fun i hi => ?_)⟩
  · rcases a3 i hi with e | e
    · exact hG i e
    · exact .inr (by omega)
  · rcases hi with e | e | e | e | e | e
    · exact .inl (.inl e)
    · exact .inl (.inr (.inl e))
    · exact .inl (.inr (.inr (.inl e)))
    · exact .inl (.inr (.inr (.inr (.inl e))))
    · rcases hG i (.inl e) with (h | h) | h
      · exact .inl (.inr (.inr (.inr (.inr (.inl h)))))
      · exact .inl (.inr (.inr (.inr (.inr (.inr h)))))
      · exact .inr h
    · rcases hG i (.inr e) with (h | h) | h
      · exact .inl (.inr (.inr (.inr (.inr (.inl h)))))
      · exact .inl (.inr (.inr (.inr (.inr (.inr h)))))
      · exact .inr h
theorem Idl.quiet (h : Idl K0 d f lo all w Gw s r z ps) (hb : Below w.heap.size w w') : Idl K0 d f lo all w' Gw s r z ps := by
  obtain ⟨K, v4, v5, v16, v17, v18, hk, hr⟩ := h.rs
  exact ⟨h.rd.quiet hb, K, v4, v5, v16, v17, v18, hk, hr.only (Only.of_below (S := fun _ => False) hb) (fun e => e) (fun e => e) (fun _ _ e => e)⟩
theorem brought_near {z : Lzs} {how lc lp pb n : Nat} {ps : List Nat} (hn : ZNear z ps.length z.out.length) (h4 : lc + lp ≤ 4) (h3 : pb ≤ 4) (hp : PsOk ps) (hb : z.bad = false) (he : z.ended = false) (hk : how = 0 → lc = z.lc ∧ lp = z.lp ∧ pb = z.pb) :
    ZNear (z.brought how (lc, lp, pb)) (psN ps how (lc, lp, pb)).length (z.brought how (lc, lp, pb)).out.length ∧ PsOk (psN ps how (lc, lp, pb)) ∧ (z.brought how (lc, lp, pb)).bad = false ∧ (z.brought how (lc, lp, pb)).ended = false ∧ (z.brought how (lc, lp, pb)).dict = z.dict ∧
    ((z.brought how (lc, lp, pb)).lc = lc ∧ (z.brought how (lc, lp, pb)).lp = lp ∧ (z.brought how (lc, lp, pb)).pb = pb) ∧ (z.brought how (lc, lp, pb)).out.length ≤ z.out.length := by
  have hrep : PsOk (List.replicate (1847 + 768 * 2 ^ (lc + lp)) 1024) := fun p hp => by
    rw [List.eq_of_mem_replicate hp]
    exact ⟨by decide, by decide⟩
  unfold Lzs.brought psN
  by_cases h0 : how = 0
  · subst h0
    rw [if_neg (by decide), if_pos rfl, if_pos rfl]
    obtain ⟨e1, e2, e3⟩ := hk rfl
    exact ⟨hn, hp, hb, he, rfl, ⟨e1.symm, e2.symm, e3.symm⟩, Nat.le_refl _⟩
  · rw [if_neg h0, if_neg h0]
    by_cases h3' : how = 3
    · rw [if_pos h3']
      refine ⟨⟨by show lc ≤ 8; omega, by show lp ≤ 4; omega, h3, hn.dict, Nat.le_refl _, Nat.zero_le _, by show 0 < 4294967296; decide, by show 0 < 4294967296; decide, by show 0 < 4294967296; decide, by show 0 < 4294967296; decide, by rw [List.length_replicate]; rfl⟩, hrep, hb, he, rfl, ⟨rfl, rfl, rfl⟩, Nat.zero_le _⟩
    · rw [if_neg h3']
      exact ⟨⟨by show lc ≤ 8; omega, by show lp ≤ 4; omega, h3, hn.dict, Nat.le_refl _, Nat.zero_le _, by show 0 < 4294967296; decide, by show 0 < 4294967296; decide, by show 0 < 4294967296; decide, by show 0 < 4294967296; decide, by rw [List.length_replicate]; rfl⟩, hrep, hb, he, rfl, ⟨rfl, rfl, rfl⟩, Nat.le_refl _⟩
end
end Go.Proofs.YtoencondpbkomaaGreatDoor
