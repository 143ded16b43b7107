/-
  RqPack: put together.
-/
import Derived.Test.YtoencondpbkomaaGreatQ24
import Derived.Test.YtoencondpbkomaaGreatQ25
import Derived.Test.YtoencondpbkomaaGreatQ19
import Derived.Test.YtoencondpbkomaaGreatQ26
import Derived.Deep.CutRange
import Derived.Deep.CutBlock
set_option linter.unusedVariables false
set_option linter.unusedSimpArgs false
/-
  The document's coder of LZMA2: Pack.
-/
namespace Go.Proofs.YtoencondpbkomaaGreat
set_option linter.unusedVariables false
set_option linter.unusedSimpArgs false
open Go.RowKit

theorem zat_packet {σ : Type} {M : Mach σ} {ok : Nat → σ → Prop} {R : Nat → Prop} {K : World → Value → Value → (Nat → Prop) → σ → Prop} {w w0 : World} {g : Nat} {G0 : Nat → Prop} {z : Lzs} {t : Pm σ}
    (Z : ZOps M ok R K) (X : MachMore M R K) {L k N : Nat} {p : Pk} (h : ZAt R K w0 G0 w g z t) (ht : PmOk ok L (k + 27) t) (hz : ZNear z L N) (hN : N ≤ 900000) (hp : PkFine p) (hm : PkMay M z p) (hl : PkLen M p) :
    Calls Tryz.prog 19 #[.pointer (some ⟨g, 0, none⟩), .agg #[.int .i64 p.kind, .int .u8 (p.byte.toNat : Int), .int .i64 p.len, .int .u32 (p.dist : Int)]] w
      (PackPost R K w0 G0 g (packP M z t p)) := by
  obtain ⟨G, hzz, hNn, hO⟩ := h
  refine (zpacket_go (g := g) Z X rfl hzz ht hz hN hp hm hl).mono ?_
  rintro e w' ⟨rfl, h2⟩
  exact ⟨rfl, ZAt.over hNn hO ((Only.refl _ _).alloc _) h2⟩

def setA (lc lp pb dict : Nat) : Array Value := #[.int .i64 (lc : Int), .int .i64 (lp : Int), .int .i64 (pb : Int), .int .i64 (dict : Int)]
/-- what holds between pieces: y the setting's block, g the coder's -/
structure R12 (w0 : World) (y g lc lp pb dict : Nat) (s : Lzs × Pm En) (out : List UInt8) (R : Option Addr) (cl : Nat) (G : Nat → Prop) (wr : World) : Prop where
  zz : Zz (fun _ => False) Ke wr g G s.1 s.2
  gl : ∀ i, G i → y < i
  row : wr.ownsRow (y + 1) 5 1 (.slice R out.length cl) out.length (bv out)
  ap : ∀ k, (Value.slice R out.length cl).ownBlock = some k → ¬ G k
  set : Blk wr y 24 (setA lc lp pb dict)
  bel : Below w0.heap.size w0 wr
  yw : w0.heap.size ≤ y
section
variable {w0 wr w' : World} {y g lc lp pb dict : Nat} {s s' : Lzs × Pm En} {out : List UInt8} {R : Option Addr} {cl : Nat} {G G' : Nat → Prop}
theorem R12.rlt (h : R12 w0 y g lc lp pb dict s out R cl G wr) (k : Nat) (e : (Value.slice R out.length cl).ownBlock = some k) : y + 1 ≤ k ∧ k < wr.heap.size := World.ownsRow.lt h.row k e
/-- the coder alone has turned -/
theorem R12.turn (h : R12 w0 y g lc lp pb dict s out R cl G wr) (hz : Zz (fun _ => False) Ke w' g G' s'.1 s'.2) (hG : ∀ i, G' i → G i ∨ wr.heap.size ≤ i) (hO : Only G wr w') : R12 w0 y g lc lp pb dict s' out R cl G' w' := by
  have hy := h.set.lt
  refine ⟨hz, fun i hi => ?_, own_only' h.row hO h.ap, fun k e hk => ?_, h.set.only hO (fun hy => by have := h.gl y hy; omega), h.bel.trans (hO.below h.bel.size (fun i hi => by have := h.gl i hi; have := h.yw; omega)), h.yw⟩
  · rcases hG i hi with h1 | h1
    · exact h.gl i h1
    · omega
  · rcases hG k hk with h1 | h1
    · exact h.ap k e h1
    · have := (h.rlt k e).2
      omega
theorem R12.below (h : R12 w0 y g lc lp pb dict s out R cl G wr) (hb : Below wr.heap.size wr w') : R12 w0 y g lc lp pb dict s out R cl G w' :=
  h.turn (h.zz.only ke_mem (Only.of_below (S := fun _ => False) hb) (fun _ _ h => h) (fun _ _ h => h)) (fun i hi => .inl hi) ((Only.of_below (S := fun _ => False) hb).mono (fun _ h => h.elim))
/-- bytes more are told -/
theorem R12.app (h : R12 w0 y g lc lp pb dict s out R cl G wr) {news : List UInt8} {R' : Option Addr} {cl' : Nat} (ho : w'.ownsRow (y + 1) 5 1 (.slice R' (out ++ news).length cl') (out ++ news).length (bv (out ++ news))) (hg : wr.grownBy w' (Value.slice R out.length cl).ownBlock)
    (hn : (Value.slice R' (out ++ news).length cl').ownBlock = (Value.slice R out.length cl).ownBlock ∨ (Value.slice R' (out ++ news).length cl').ownBlock = some wr.heap.size) :
    R12 w0 y g lc lp pb dict s (out ++ news) R' cl' G w' := by
  have hO : Only (fun i => (Value.slice R out.length cl).ownBlock = some i) wr w' := ⟨hg.os, hg.tape, hg.output, hg.size, fun i hi hn => hg.block i hi (fun e => hn e.symm)⟩
  have hy := h.set.lt
  refine ⟨h.zz.only ke_mem hO (fun i hi e => h.ap i e hi) (fun _ h => h.elim), h.gl, ho, fun k e hk => ?_, h.set.only hO (fun e => by have := (h.rlt y e).1; omega), h.bel.grown hg h.bel.size (fun k e => by have := (h.rlt k e).1; have := h.yw; omega), h.yw⟩
  rcases hn with h1 | h1
  · exact h.ap k (h1.symm.trans e) hk
  · have e2 : wr.heap.size = k := by rw [h1] at e; injection e
    obtain ⟨_, _, _, _, _, _, _, hz⟩ := h.zz
    have := hz.old k hk
    omega
theorem sl_grown {w w2 : World} {A : Option Addr} {n : Nat} {xs : List Value} {v : Option Nat} (h : Sl w A n xs) (hg : w.grownBy w2 v) (ha : ∀ b o, A = some ⟨b, o, none⟩ → v = some b → False) : Sl w2 A n xs :=
  h.only (S := fun i => v = some i) ⟨hg.os, hg.tape, hg.output, hg.size, fun i hi hn => hg.block i hi (fun e => hn e.symm)⟩ (fun _ q o e => ha q o e)
theorem R12.apps (h : R12 w0 y g lc lp pb dict s out R cl G wr) {news : List UInt8} {n : Nat} {R' : Option Addr} {cl' : Nat} (hl : news.length = n) (ho : w'.ownsRow (y + 1) 5 1 (.slice R' (out.length + n) cl') (out.length + n) (bv out ++ bv news)) (hg : wr.grownBy w' (Value.slice R out.length cl).ownBlock)
    (hn : (Value.slice R' (out.length + n) cl').ownBlock = (Value.slice R out.length cl).ownBlock ∨ (Value.slice R' (out.length + n) cl').ownBlock = some wr.heap.size) :
    R12 w0 y g lc lp pb dict s (out ++ news) R' cl' G w' := by
  have e : out.length + n = (out ++ news).length := by rw [List.length_append, hl]
  rw [e] at ho hn
  rw [← bv_append] at ho
  exact h.app ho hg hn
end

/-- behind so many pieces -/
def FQ (b : List UInt8) (lc lp pb dict p j : Nat) : Nat × Ckn := foldQ b (headB lc lp pb) dict p (freshS lc lp pb dict) (List.range j)
theorem fq_succ (b : List UInt8) (lc lp pb dict p j : Nat) : FQ b lc lp pb dict p (j + 1) = stepQ b (headB lc lp pb) dict p (FQ b lc lp pb dict p j) j := by
  unfold FQ
  rw [List.range_succ, foldQ_snoc]
theorem fq_ckw {b : List UInt8} {lc lp pb dict p : Nat} (h : SetOk lc lp pb dict) (hn : b.length ≤ 1000000) (j : Nat) : Ckw b lc lp pb dict p j (FQ b lc lp pb dict p j) := by
  have := ckw_fold (b := b) (p := p) (p0 := headB lc lp pb) h hn (List.range j)
  rwa [List.length_range] at this
theorem rq_nums {n p F : Nat} (hF : F < n) (hn : n ≤ 65536) (hp : p ≤ 65536) : wrap64 ((n : Int) - (F : Int)) = ((n - F : Nat) : Int) ∧ wrap64 ((F : Int) + (p : Int)) = ((F + p : Nat) : Int) := by
  refine ⟨?_, ?_⟩
  · rw [IntWalk.wrap64_in _ (by omega)]; omega
  · rw [IntWalk.wrap64_in _ (by omega)]; omega
theorem howR_first {any last : Bool} {F j p : Nat} (h : j * p = 0 → any = false) (hF : F = j * p) : (if howR any last F = 3 then 1 else 2) = (if F = 0 then 1 else 2) := by
  unfold howR
  by_cases h0 : F = 0
  · rw [if_pos h0, if_pos rfl, if_pos h0]
  · rw [if_neg h0, if_neg h0]
    cases any <;> cases last <;> rfl
theorem three_num {cc m : Nat} (hc : cc ≤ 2) (hm : 1 ≤ m) (hm2 : m ≤ 65536) :
    (#[Value.int .u8 (cc : Int), .int .u8 (wrap64 (((m : Int) - 1).tdiv 256) % 256), .int .u8 (((m : Int) - 1).tmod 256 % 256)] : Array Value) = (bv ([UInt8.ofNat cc] ++ cntB m)).toArray := by
  have e2 : ((m : Int) - 1).tdiv 256 = ((m : Int) - 1) / 256 := Int.tdiv_eq_ediv_of_nonneg (by omega)
  have e3 : wrap64 (((m : Int) - 1) / 256) = ((m : Int) - 1) / 256 := IntWalk.wrap64_in _ (by omega)
  have e4 : ((m : Int) - 1).tmod 256 = ((m : Int) - 1) % 256 := Int.tmod_eq_emod_of_nonneg (by omega)
  rw [e2, e3, e4]
  show _ = #[Value.int .u8 ((UInt8.ofNat cc).toNat : Int), .int .u8 ((UInt8.ofNat ((m - 1) / 256)).toNat : Int), .int .u8 ((UInt8.ofNat ((m - 1) % 256)).toNat : Int)]
  rw [u8_of, u8_of, u8_of]
  have f1 : ((cc : Nat) : Int) % 256 = (cc : Int) := by omega
  have f2 : ((m : Int) - 1) / 256 % 256 = (((m - 1) / 256 : Nat) : Int) % 256 := by omega
  have f3 : ((m : Int) - 1) % 256 % 256 = (((m - 1) % 256 : Nat) : Int) % 256 := by omega
  rw [f1, f2, f3]
theorem rq_meas {n p F : Nat} (hF : F < n) (hp : 1 ≤ p) : n + p - (intOf (Value.int .i64 ((F + p : Nat) : Int))).toNat < n + p - (intOf (Value.int .i64 (F : Int))).toNat := by
  simp [intOf]
  omega
set_option maxRecDepth 100000 in
set_option maxHeartbeats 64000000 in
theorem rpack12_any {w : World} {A : Option Addr} {n c p : Nat} {b : List UInt8} {lc lp pb dict : Nat} (hset : SetOk lc lp pb dict) (h4 : lc + lp ≤ 4) (hp : 1 ≤ p) (hp2 : p ≤ 65536) (hS : Sl w A n (bv b)) (hn : n ≤ 65536) (hnc : n ≤ c) (hc : c ≤ maxLen) :
    Calls Tryz.prog 8 #[.slice A n c, .agg #[.int .i64 (lc : Int), .int .i64 (lp : Int), .int .i64 (pb : Int), .int .i64 (dict : Int)], .int .i64 (p : Int)] w (KPackPost w b lc lp pb dict p) := by
  have hm12 : may12 (lc : Int) (lp : Int) (pb : Int) (dict : Int) = true := by
    unfold may12
    rw [setOk_may hset, decide_eq_true (by omega)]
    rfl
  have hbl : b.length = n := by rw [← bv_length]; exact hS.1
  obtain ⟨iu, hiu, hz0, hz1, hz2⟩ := info_parts info_u8
  obtain ⟨w1, hw1⟩ : ∃ w1, w1 = w.alloc (.cells (setA lc lp pb dict) 24) := ⟨_, rfl⟩
  obtain ⟨y, hy⟩ : ∃ y, y = w.heap.size := ⟨_, rfl⟩
  have hb1 : Below w.heap.size w w1 := by rw [hw1]; exact (Below.refl _ _).alloc (Nat.le_refl _) _
  have hk1 : Blk w1 y 24 (setA lc lp pb dict) := by rw [hw1, hy]; exact Blk.fresh w _ _
  have KM := fun W => rmay12_any (lc : Int) (lp : Int) (pb : Int) (dict : Int) W
  rw [hm12] at KM
  have KM := Lib.hid (KM w1)
  have KN := Lib.hid (fun W => rstartQ_any hset W)
  have HCK := Lib.hid (fun j => fq_ckw (p := p) hset (by omega : b.length ≤ 1000000) j)
  have HAT := Lib.hid (fun j => show (FQ b lc lp pb dict p j).1 = min (j * p) b.length from fold_at j)
  have HSUC := Lib.hid (fun j => fq_succ b lc lp pb dict p j)
  have HF0 := Lib.hid (show FQ b lc lp pb dict p 0 = (0, ⟨3, freshS lc lp pb dict, []⟩) from rfl)
  have HPK := Lib.hid (show packN b lc lp pb dict p = (FQ b lc lp pb dict p (manyN b.length p)).2.out ++ [0] from rfl)
  have HH := Lib.hid (show 1 ≤ p ∧ p ≤ 65536 ∧ n ≤ 65536 ∧ b.length = n ∧ n ≤ c ∧ c ≤ maxLen ∧ SetOk lc lp pb dict from ⟨hp, hp2, hn, hbl, hnc, hc, hset⟩)
  have HML := Lib.hid (fun j => (many_lt (n := n) (j := j) hp))
  have g1 : ¬ (p : Int) < 1 := by omega
  have g2 : ¬ (p : Int) > 65536 := by omega
  have d0 : w1.cell? ⟨y, 0, none⟩ = some (.int .i64 (lc : Int)) := hk1.cell 0
  have d1 : w1.cell? ⟨y, 1, none⟩ = some (.int .i64 (lp : Int)) := hk1.cell 1
  have d2 : w1.cell? ⟨y, 2, none⟩ = some (.int .i64 (pb : Int)) := hk1.cell 2
  have d3 : w1.cell? ⟨y, 3, none⟩ = some (.int .i64 (dict : Int)) := hk1.cell 3
  have HW1 := Lib.hid (And.intro hw1 hy)
  have HB1 := Lib.hid hb1
  have HK1 := Lib.hid hk1
  have HS := Lib.hid hS
  unfold setA at HW1
  generalize hf : FQ b lc lp pb dict p = fq at *
  clear hf hw1 hy hb1 hk1 hset h4 hp hp2 hS hn hnc hc hbl hm12
  go_enter Tryz.func8, Tryz.ntmps8
  go_upto_region 1 with fail
  rw [← HW1.out.1, ← HW1.out.2]
  go_wp2_with fail
  refine KM.out.mono ?_
  rintro x w2 ⟨rfl, hb2⟩
  have hk2 := HK1.out.below hb2
  have HB2 := Lib.hid (show Below w.heap.size w w2 from HB1.out.trans (hb2.mono HB1.out.size))
  clear d0 d1 d2 d3 KM
  have d0 : w2.cell? ⟨y, 0, none⟩ = some (.int .i64 (lc : Int)) := hk2.cell 0
  have d1 : w2.cell? ⟨y, 1, none⟩ = some (.int .i64 (lp : Int)) := hk2.cell 1
  have d2 : w2.cell? ⟨y, 2, none⟩ = some (.int .i64 (pb : Int)) := hk2.cell 2
  have d3 : w2.cell? ⟨y, 3, none⟩ = some (.int .i64 (dict : Int)) := hk2.cell 3
  have HK2 := Lib.hid hk2
  clear hb2 hk2
  go_wp2_with fail
  refine (KN.out w2).mono ?_
  clear d0 d1 d2 d3 KN
  rintro x w3 ⟨g, G, rfl, hz3, hG3, hb3⟩
  have hk3 := HK2.out.below hb3
  have hlt2 := HK2.out.lt
  have hr3 : R12 w y g lc lp pb dict (fq 0).2.s (fq 0).2.out none 0 G w3 := by
    rw [HF0.out]
    exact ⟨hz3, fun i hi => by have := hG3 i hi; omega, World.ownsRow_nil _ _ _ _, fun k e => (nomatch e), hk3, HB2.out.trans (hb3.mono HB2.out.size), Nat.le_of_eq HW1.out.2.symm⟩
  have HR3 := Lib.hid hr3
  have HO0 := Lib.hid (show (fq 0).2.out.length = 0 by rw [HF0.out]; rfl)
  have HH0 := Lib.hid (show (fq 0).2.how = howR false false (0 * p) by rw [HF0.out, Nat.zero_mul]; rfl)
  clear hz3 hG3 hb3 hk3 hlt2 hr3 HK2 HB2 HK1 HB1 HW1 g1 g2
  go_wp2_with fail
  go_loopw [10, 11, 12, 13] (fun v10 v11 v12 v13 wr => ∃ (j : Nat) (any last : Bool) (R : Option Addr) (cl : Nat) (G : Nat → Prop), v10 = .slice R (fq j).2.out.length cl ∧ v11 = .bool any ∧ v12 = .bool last ∧ v13 = .int .i64 ((j * p : Nat) : Int) ∧ j ≤ manyN n p ∧ R12 w y g lc lp pb dict (fq j).2.s (fq j).2.out R cl G wr ∧ (fq j).2.how = howR any last (j * p) ∧ (j * p = 0 → any = false)) (fun _ _ _ v13 _ => n + p - (intOf v13).toNat)
  case atStart => exact ⟨0, false, false, none, 0, G, by rw [HO0.out], rfl, rfl, by rw [Nat.zero_mul]; rfl, Nat.zero_le _, HR3.out, HH0.out, fun _ => rfl⟩
  case round =>
    clear HR3 HO0 HH0
    obtain ⟨j, any, last, R, cl, G2, rfl, rfl, rfl, rfl, hj, hr, hhow, hany⟩ := hrel
    have HR := Lib.hid hr
    have HOW := Lib.hid (And.intro hhow hany)
    obtain ⟨F, hF⟩ : ∃ F, F = j * p := ⟨_, rfl⟩
    have HFJ := Lib.hid hF
    rw [← hF]
    have HJ := Lib.hid hj
    by_cases hlt : F < n
    · obtain ⟨hp, hp2, hn, hbl, hnc, hc, hset⟩ := HH.out
      obtain ⟨m, hm⟩ : ∃ m, m = min p (n - F) := ⟨_, rfl⟩
      obtain ⟨T, hT⟩ : ∃ T, T = F + m := ⟨_, rfl⟩
      have HNU := Lib.hid (show F < n ∧ m = min p (n - F) ∧ T = F + m ∧ T ≤ n ∧ 1 ≤ m from ⟨hlt, hm, hT, by omega, by omega⟩)
      have i1 : (F : Int) < (n : Int) := by omega
      have HE := Lib.hid (rq_nums (p := p) hlt hn hp2)
      clear hr hhow hany hF hj hlt hp hp2 hn hbl hnc hc hset hm hT
      have e1 := HE.out.1
      go_upto_if 48 with fail
      clear e1
      go_cut [14] from 48 to 51 (fun v wx => v = .int .i64 (T : Int) ∧ wx = wr)
      case first =>
        as_aux_lemma =>
          by_cases h : p < n - F
          · have i2 : ((n - F : Nat) : Int) > (p : Int) := by omega
            have HTT := Lib.hid (show T = F + p by have := HNU.out; omega)
            clear h
            have e2 := HE.out.2
            go_wp2_with fail
            go_meet
            exact ⟨by first | (rw [HTT.out, e2]; done) | rw [HTT.out], rfl⟩
          · have i2 : ¬ ((n - F : Nat) : Int) > (p : Int) := by omega
            have HTT := Lib.hid (show T = n by have := HNU.out; omega)
            clear h
            go_wp2_with fail
            go_meet
            exact ⟨by rw [HTT.out], rfl⟩
      case rest =>
      obtain ⟨rfl, hw⟩ := hcut
      rw [hw]
      clear hw wc
      obtain ⟨h1, hh1⟩ : ∃ h1 : Nat, h1 = (if last = true then 1 else 0) := ⟨_, rfl⟩
      have HH1 := Lib.hid hh1
      clear hh1
      go_upto_if 52 with fail
      go_cut [15] from 52 to 52 (fun v wx => v = .int .i64 (h1 : Int) ∧ wx = wr)
      case first =>
        as_aux_lemma =>
          cases last
          · go_wp2_with fail
            go_meet
            exact ⟨by rw [HH1.out]; rfl, rfl⟩
          · go_wp2_with fail
            go_meet
            exact ⟨by rw [HH1.out]; rfl, rfl⟩
      case rest =>
      obtain ⟨rfl, hw⟩ := hcut
      rw [hw]
      clear hw wc
      obtain ⟨h2, hh2⟩ : ∃ h2 : Nat, h2 = (if any = false then 2 else h1) := ⟨_, rfl⟩
      have HH2 := Lib.hid hh2
      clear hh2
      go_upto_if 54 with fail
      go_cut [15] from 54 to 54 (fun v wx => v = .int .i64 (h2 : Int) ∧ wx = wr)
      case first =>
        as_aux_lemma =>
          cases any
          · go_wp2_with fail
            go_meet
            exact ⟨by rw [HH2.out]; rfl, rfl⟩
          · go_wp2_with fail
            go_meet
            exact ⟨by rw [HH2.out]; rfl, rfl⟩
      case rest =>
      obtain ⟨rfl, hw⟩ := hcut
      rw [hw]
      clear hw wc
      obtain ⟨hw3, hh3⟩ : ∃ hw3 : Nat, hw3 = (fq j).2.how := ⟨_, rfl⟩
      have HH3 := Lib.hid (show hw3 = (if F = 0 then 3 else h2) ∧ hw3 ≤ 3 by
        have e := HOW.out.1
        rw [← HFJ.out] at e
        rw [hh3, e]
        refine ⟨?_, howR_le _ _ _⟩
        unfold howR
        rw [HH2.out, HH1.out])
      have HHW := Lib.hid hh3
      clear hh3
      go_upto_if 56 with fail
      go_cut [15] from 56 to 56 (fun v wx => v = .int .i64 (hw3 : Int) ∧ wx = wr)
      case first =>
        as_aux_lemma =>
          by_cases h0 : F = 0
          · have i3 : ((F : Int) == 0) = true := by simp [h0]
            have HX := Lib.hid (show hw3 = 3 by rw [HH3.out.1, if_pos h0])
            clear h0
            go_wp2_with fail
            go_meet
            exact ⟨by rw [HX.out]; rfl, rfl⟩
          · have i3 : ((F : Int) == 0) = false := by simp [h0]
            have HX := Lib.hid (show hw3 = h2 by rw [HH3.out.1, if_neg h0])
            clear h0
            go_wp2_with fail
            go_meet
            exact ⟨by rw [HX.out], rfl⟩
      case rest =>
      obtain ⟨rfl, hw⟩ := hcut
      rw [hw]
      have HW3 := Lib.hid HH3.out.2
      clear hw wc HH1 HH2 HH3
      clear h1 h2
      have hcmd := (HCK.out j).cmd
      have hsetj := (HCK.out j).set
      obtain ⟨sj, hsj⟩ : ∃ sj, sj = preS hw3 (fq j).2.s := ⟨_, rfl⟩
      have HSJ := Lib.hid hsj
      clear hsj
      go_upto_if 58 with fail
      go_cut [15] from 58 to 61 (fun v wx => v = .int .i64 (hw3 : Int) ∧ ∃ G3, R12 w y g lc lp pb dict sj (fq j).2.out R cl G3 wx)
      case first =>
        as_aux_lemma =>
          by_cases h0 : hw3 = 0
          · have i3 : ¬ (hw3 : Int) > 0 := by omega
            have HX := Lib.hid (show sj = (fq j).2.s by rw [HSJ.out]; unfold preS; rw [if_pos h0])
            clear h0 hcmd hsetj
            go_wp2_with fail
            go_meet
            exact ⟨rfl, G2, by rw [HX.out]; exact HR.out⟩
          · have i3 : (hw3 : Int) > 0 := by omega
            have HX := Lib.hid (show sj = reS (fq j).2.s by rw [HSJ.out]; unfold preS; rw [if_neg h0])
            have hdi : (fq j).2.s.1.dict = dict := hcmd.par.dict
            have KR := Lib.hid (rresetQ_any HR.out.zz HH.out.2.2.2.2.2.2 ⟨hsetj.1, hsetj.2.1, hsetj.2.2, hdi⟩ hcmd.len)
            have d0 : wr.cell? ⟨y, 0, none⟩ = some (.int .i64 (lc : Int)) := HR.out.set.cell 0
            have d1 : wr.cell? ⟨y, 1, none⟩ = some (.int .i64 (lp : Int)) := HR.out.set.cell 1
            have d2 : wr.cell? ⟨y, 2, none⟩ = some (.int .i64 (pb : Int)) := HR.out.set.cell 2
            have d3 : wr.cell? ⟨y, 3, none⟩ = some (.int .i64 (dict : Int)) := HR.out.set.cell 3
            clear h0 hcmd hsetj hdi
            go_wp2_with fail
            refine KR.out.mono ?_
            rintro x w5 ⟨rfl, G3, z1, z2, z3⟩
            have HR5 := Lib.hid (HR.out.turn (s' := reS (fq j).2.s) z1 z2 z3)
            clear z1 z2 z3 KR d0 d1 d2 d3
            go_wp2_with fail
            go_meet
            exact ⟨rfl, G3, by rw [HX.out]; exact HR5.out⟩
      case rest =>
      obtain ⟨rfl, G3, hr3⟩ := hcut
      generalize wc = wx at *
      have hcm : Cmd b dict (1847 + 768 * 2 ^ (lc + lp)) F sj := by
        have h := hcmd.pre (how := hw3)
        rw [← HSJ.out, HAT.out, HH.out.2.2.2.1] at h
        have e : min (min (j * p) n) n = F := by have := HFJ.out; have := HNU.out; omega
        rwa [e] at h
      have HCM := Lib.hid hcm
      obtain ⟨Lq, hLq⟩ : ∃ L, L = findS b dict F T sj.1 := ⟨_, rfl⟩
      have HLQ := Lib.hid hLq
      obtain ⟨Gm, Dv, Ev, pp, pc, A7, c7, hzr⟩ := hr3.zz
      have hre : wx.cell? ⟨g, 9, none⟩ = some (.int .u32 (sj.1.r0 : Int)) ∧ wx.cell? ⟨g, 10, none⟩ = some (.int .u32 (sj.1.r1 : Int)) ∧ wx.cell? ⟨g, 11, none⟩ = some (.int .u32 (sj.1.r2 : Int)) ∧ wx.cell? ⟨g, 12, none⟩ = some (.int .u32 (sj.1.r3 : Int)) := ⟨hzr.blk.cell 9, hzr.blk.cell 10, hzr.blk.cell 11, hzr.blk.cell 12⟩
      have hgl := hzr.blk.lt
      have HR3 := Lib.hid hr3
      have hds : wx.cell? ⟨y, 3, none⟩ = some (.int .i64 (dict : Int)) := hr3.set.cell 3
      have hyl := hr3.set.lt
      have KFP : ∀ W, Only (fun _ => False) wx W → Calls Tryz.prog 18 #[.slice A n c, .int .i64 (F : Int), .int .i64 (T : Int), .int .i64 (dict : Int), .agg #[.int .u32 (sj.1.r0 : Int), .int .u32 (sj.1.r1 : Int), .int .u32 (sj.1.r2 : Int), .int .u32 (sj.1.r3 : Int)]] W
          (fun e w' => Only (fun _ => False) W w' ∧ ∃ R cl, ∃ a0 a1 a2 a3 : Nat, e = .returned (.tuple #[.slice R Lq.length cl, .agg #[.int .u32 (a0 : Int), .int .u32 (a1 : Int), .int .u32 (a2 : Int), .int .u32 (a3 : Int)]]) ∧ (∀ q o, R = some ⟨q, o, none⟩ → wx.heap.size ≤ q) ∧ ∀ W', Only (fun i => i < W.heap.size) w' W' → Pkts W' R Lq.length (fun i => Lq.getD i ⟨0, 0, 0, 0⟩)) := by
        intro W hW
        have hz := hcm.near
        obtain ⟨q1, q2, q3, q4, q5, q6, q7⟩ := HH.out
        obtain ⟨u1, u2, u3, u4, u5⟩ := HNU.out
        have KF := rfind_any (w := W) (A := A) (n := n) (c := c) (bs := b) (fi := (F : Int)) (ti := (T : Int)) (di := (dict : Int)) (r0 := sj.1.r0) (r1 := sj.1.r1) (r2 := sj.1.r2) (r3 := sj.1.r3) (HS.out.below (hr3.bel.trans (hW.below hr3.bel.size (fun _ h => h.elim)))) (by omega) (by omega) (by have := q7.2.2.2.2; omega) ⟨hz.r0, hz.r1, hz.r2, hz.r3⟩
        have hF : fromN n (F : Int) = F := by unfold fromN; omega
        have hT : toN n F (T : Int) = T := by unfold toN; omega
        rw [hF, hT, dictI_set q7] at KF
        refine KF.mono ?_
        rintro x w' ⟨hb, L, s', R, cl, hf, hlit, hlen, rfl, hrow⟩
        have hL : L = Lq := by
          rw [hLq]
          show L = (findF b dict T ⟨F, sj.1.r0, sj.1.r1, sj.1.r2, sj.1.r3⟩).1
          rw [hf]
        subst hL
        have hgb : ∀ q o, R = some ⟨q, o, none⟩ → W.heap.size ≤ q := by
          intro q o e'
          rcases hrow.2 with ⟨e, e0⟩ | ⟨g', cap, cur, e, hb', _⟩
          · rw [e'] at e
            injection e with e
            exact (nomatch e)
          · rw [e'] at e
            injection e with e
            injection e with e
            injection e with e
            omega
        refine ⟨Only.of_below hb, R, cl, _, _, _, _, rfl, fun q o e => Nat.le_trans hW.size (hgb q o e), fun W' hW' hm => ?_⟩
        obtain ⟨b', o', e', hlt', hc'⟩ := (pkts_row hrow).2 hm
        have hge : W.heap.size ≤ b' := hgb b' o' e'
        have hbk := hW'.block b' hlt' (by omega)
        refine ⟨b', o', e', Nat.lt_of_lt_of_le hlt' hW'.size, fun i hi => ?_⟩
        obtain ⟨r1, r2, r3, r4⟩ := hc' i hi
        exact ⟨(World.cell?_of_block hbk).trans r1, (World.cell?_of_block hbk).trans r2, (World.cell?_of_block hbk).trans r3, (World.cell?_of_block hbk).trans r4⟩
      have KFQ := Lib.hid KFP
      have HRE := Lib.hid (fun (W : World) (hW : Only (fun _ => False) wx W) => show W.cell? ⟨y, 3, none⟩ = some (.int .i64 (dict : Int)) ∧ W.cell? ⟨g, 9, none⟩ = some (.int .u32 (sj.1.r0 : Int)) ∧ W.cell? ⟨g, 10, none⟩ = some (.int .u32 (sj.1.r1 : Int)) ∧ W.cell? ⟨g, 11, none⟩ = some (.int .u32 (sj.1.r2 : Int)) ∧ W.cell? ⟨g, 12, none⟩ = some (.int .u32 (sj.1.r3 : Int)) from
        ⟨(hW.cell (p := ⟨y, 3, none⟩) hyl (fun h => h)).trans hds, (hW.cell (p := ⟨g, 9, none⟩) hgl (fun h => h)).trans hre.1, (hW.cell (p := ⟨g, 10, none⟩) hgl (fun h => h)).trans hre.2.1, (hW.cell (p := ⟨g, 11, none⟩) hgl (fun h => h)).trans hre.2.2.1, (hW.cell (p := ⟨g, 12, none⟩) hgl (fun h => h)).trans hre.2.2.2⟩)
      clear hcm hLq hzr hre hr3 hds KFP hcmd hsetj hyl hgl HR
      go_upto_region 24 with fail
      go_cut [16] from 63 to 74 (fun v wz => ∃ RL cL, v = .slice RL Lq.length cL ∧ (∀ q o, RL = some ⟨q, o, none⟩ → wx.heap.size ≤ q) ∧ Pkts wz RL Lq.length (fun i => Lq.getD i ⟨0, 0, 0, 0⟩) ∧ Only (fun _ => False) wx wz)
      case first =>
        have HR0 := Lib.hid (Only.refl (fun _ => False) wx)
        have HD0 := Lib.hid (HRE.out wx (Only.refl _ _))
        obtain ⟨d0, d1, d2, d3, d4⟩ := HD0.out
        go_wp2_with fail
        go_region_held3 (fun W => W.cell? ⟨y, 3, none⟩ = some (.int .i64 (dict : Int)) ∧ W.cell? ⟨g, 9, none⟩ = some (.int .u32 (sj.1.r0 : Int)) ∧ W.cell? ⟨g, 10, none⟩ = some (.int .u32 (sj.1.r1 : Int)) ∧ W.cell? ⟨g, 11, none⟩ = some (.int .u32 (sj.1.r2 : Int)) ∧ W.cell? ⟨g, 12, none⟩ = some (.int .u32 (sj.1.r3 : Int)))
          (first | assumption | go_keep | exact HD0.out | exact HRE.out _ HOB.out | exact HRE.out _ (HOB.out.alloc _) | exact HRE.out _ (HR0.out.alloc _) | exact HRE.out _ (four_set HOB.out (.inr (Nat.le_refl _))))
          (first
            | (go_at_call 18; refine (KFQ.out _ (by first | exact HR0.out | exact HR0.out.alloc _ | exact (HR0.out.alloc _).drew | exact (HR0.out.alloc _).drewN _ | exact HR0.out.drewN _ | exact HR0.out.drew)).mono ?_; rintro x wb ⟨hob, RL, cL, a0, a1, a2, a3, rfl, hrb, hpk⟩; have HPK := Lib.hid (And.intro hrb hpk); clear hrb; have HOB := Lib.hid (show Only (fun _ => False) wx wb from by first | exact hob | exact hob.of_drew | exact hob.of_drewN | exact (HR0.out.alloc _).trans hob | exact (HR0.out.alloc _).trans hob.of_drew | exact (HR0.out.alloc _).trans hob.of_drewN); first | (have hbx : Blk wb wx.heap.size 49 #[.int .u32 0, .int .u32 0, .int .u32 0, .int .u32 0] := (Blk.only (S := fun _ => False) (Blk.fresh wx _ _) (by first | exact hob | exact hob.of_drew | exact hob.of_drewN) (fun h => h)); have HBX := Lib.hid hbx; have z0 := hbx.cell 0; have z1 := hbx.cell 1; have z2 := hbx.cell 2; have z3 := hbx.cell 3; have y0 := hbx.free 0; have y1 := hbx.free 1; have y2 := hbx.free 2; have y3 := hbx.free 3; clear hob hpk hbx) | (clear hob hpk)))
        all_goals
          clear KFQ HRE d0 d1 d2 d3 d4 HD0
          go_wp2_with fail
          go_meet
        all_goals
          refine ⟨RL, cL, rfl, HPK.out.1, ?_⟩
          first
            | exact ⟨HPK.out.2 _ ((Only.refl _ wb).alloc _), HOB.out.alloc _⟩
            | exact ⟨HPK.out.2 _ (four_set (Only.refl _ wb) (.inl (by simp))), four_set HOB.out (.inr (Nat.le_refl _))⟩
           
      case rest =>
      obtain ⟨RL, cL, rfl, hrb, hpk, hoz⟩ := hcut
      generalize wc = wz at *
      obtain ⟨q1, q2, q3, q4, q5, q6, q7⟩ := HH.out
      obtain ⟨v1, v2, v3, v4, v5⟩ := HNU.out
      obtain ⟨hall, hlen, hcmd, hfive, hend, hen, hlen9, hlc⟩ := str_all (T := T) HCM.out (by omega) (by omega) (by omega) Lq HLQ.out
      have hzz := HR3.out.zz.only ke_mem hoz (fun _ _ h => h) (fun _ _ h => h)
      have hrz : R12 w y g lc lp pb dict sj (fq j).2.out R cl G3 wz := HR3.out.turn hzz (fun i hi => .inl hi) (hoz.mono (fun _ h => h.elim))
      have hap : Apt RL G3 := fun q o e hg => by
        have := hrb q o e
        have hx : q < wx.heap.size := HR3.out.zz.old hg
        omega
      obtain ⟨q, hq⟩ : ∃ q : Nat → Pq, q = fun h => Lq.getD h ⟨0, 0, 0, 0⟩ := ⟨_, rfl⟩
      have hqv : ∀ h, Lq.getD h ⟨0, 0, 0, 0⟩ = q h := fun h => by rw [hq]
      have hrunL : runL Lq sj = runT q sj Lq.length := by
        rw [hq]
        rfl
      rw [hrunL] at hcmd hfive hend hen hlen9
      simp only [hqv] at hall
      have HALL := Lib.hid hall
      have HRZ := Lib.hid hrz
      have HPQ := Lib.hid (show Pkts wz RL Lq.length q ∧ Apt RL G3 by rw [hq]; exact ⟨hpk, hap⟩)
      have HLL := Lib.hid (show Lq.length ≤ 65536 by omega)
      have HBL := Lib.hid (show b.length ≤ 65536 by omega)
      have HFIN := Lib.hid (And.intro hend (And.intro hfive (And.intro hen hlen9)))
      have HST := Lib.hid (show ZAt (fun _ => False) Ke wz G3 wz g (runT q sj 0).1 (runT q sj 0).2 from ZAt.begin hzz)
      have HEO := Lib.hid enc_ops
      have HEM := Lib.hid enc_more
      have HQE := Lib.hid hq
      have HRUN := Lib.hid hrunL
      clear q1 q2 q3 q4 q5 q6 q7 v1 v2 v3 v4 v5 hall hlen hcmd hfive hend hen hlen9 hlc hzz hrz hap hrb hpk hoz hq hqv hrunL KFQ HRE
      go_wp2_with fail
      go_loopw [18] (fun v wr => ∃ h : Nat, h ≤ Lq.length ∧ v = .int .i64 (h : Int) ∧ ZAt (fun _ => False) Ke wz G3 wr g (runT q sj h).1 (runT q sj h).2) (fun v _ => Lq.length - (intOf v).toNat)
      case atStart => exact ⟨0, Nat.zero_le _, rfl, HST.out⟩
      case round =>
        clear HST
        obtain ⟨h, hh, rfl, hz⟩ := hrel
        by_cases hlt : h < Lq.length
        · obtain ⟨p1, p2, p3, p4, p5⟩ := HALL.out h hlt
          obtain ⟨bb, ob, rfl, hbb, hcb⟩ := (HPQ.out.1.only (show Only G3 wz _ from by obtain ⟨_, _, _, hO⟩ := hz; exact hO) HPQ.out.2) (by omega)
          obtain ⟨l0, l1, l2, l3⟩ := hcb h hlt
          have hsuc : runT q sj (h + 1) = (packP encM (runT q sj h).1 (runT q sj h).2 (q h).pk).2 := if_pos p2
          have ea : (((UInt8.ofNat (q h).a.toNat).toNat : Nat) : Int) = (q h).a := by
            have := p1.a
            have e : (UInt8.ofNat (q h).a.toNat).toNat = (q h).a.toNat := by simp; omega
            rw [e]
            omega
          have ev : (((q h).v.toNat : Nat) : Int) = (q h).v := by have := p1.v; omega
          have KP : Calls Tryz.prog 19 #[.pointer (some ⟨g, 0, none⟩), .agg #[.int .i64 (q h).k, .int .u8 (q h).a, .int .i64 (q h).n, .int .u32 (q h).v]] wr (PackPost (fun _ => False) Ke wz G3 g (packP encM (runT q sj h).1 (runT q sj h).2 (q h).pk)) := by
            obtain ⟨f1, f2, f3⟩ := fits_pk p1 p2
            have hpm : PmOk okE (1847 + 768 * 2 ^ (lc + lp)) (27 * (Lq.length - (h + 1)) + 27) (runT q sj h).2 := by
              rw [show 27 * (Lq.length - (h + 1)) + 27 = 27 * (Lq.length - h) by omega]
              exact p5
            have := zat_packet HEO.out HEM.out (p := (q h).pk) hz hpm p3 (by have := HBL.out; omega) f1 f2 f3
            rw [show ((((q h).pk).byte.toNat : Nat) : Int) = (q h).a from ea, show ((((q h).pk).dist : Nat) : Int) = (q h).v from ev] at this
            exact this
          have KP := Lib.hid KP
          have HSUC := Lib.hid hsuc
          have HLT := Lib.hid hlt
          have i0 : (0 : Int) ≤ (h : Int) := by omega
          have i2 : (h : Int) < (Lq.length : Int) := by omega
          have e2 : IntKind.i64.wrap ((h : Int) + 1) = (h : Int) + 1 := IntWalk.i64_in _ (by have := HLL.out; omega)
          clear p1 p2 p3 p4 p5 hcb hsuc ea ev hz hlt hh hbb
          go_wp2_with fail
          refine KP.out.mono ?_
          rintro x w9 ⟨rfl, hz9⟩
          have HZ9 := Lib.hid hz9
          clear hz9 KP l0 l1 l2 l3
          go_wp2_with fail
          go_roundw
          case rel => exact ⟨h + 1, by have := HLT.out; omega, by go_num, by rw [HSUC.out]; exact HZ9.out⟩
          case measure => have := HLT.out; simp [intOf]; omega
        · obtain rfl : h = Lq.length := by omega
          obtain ⟨G4, hz4, hN4, hO4⟩ := hz
          have hr4 : R12 w y g lc lp pb dict (runT q sj Lq.length) (fq j).2.out R cl G4 wr := HRZ.out.turn hz4 hN4 hO4
          have KF := rfinishQ_any (s := runT q sj Lq.length) hz4
          have HR4 := Lib.hid hr4
          clear hz4 hN4 hO4 hr4 hh HRZ HR3
          go_wp2_with fail
          refine KF.mono ?_
          rintro x w5 ⟨bs, A5, c5, G5, rfl, hsl, hbe, hbl, hbc, hcm, hgA, hz5, hN5, hO5⟩
          have hfe : ({ (runT q sj Lq.length).1 with ended := false } : Lzs) = (runT q sj Lq.length).1 := by
            have := HFIN.out.1
            revert this
            generalize (runT q sj Lq.length).1 = z
            intro h
            cases z
            simp at h ⊢
            exact h
          rw [hfe] at hz5
          have hr5 : R12 w y g lc lp pb dict (finS (runT q sj Lq.length)) (fq j).2.out R cl G5 w5 := HR4.out.turn hz5 hN5 hO5
          have HR5 := Lib.hid hr5
          have HBS := Lib.hid (And.intro hsl (And.intro hbe (And.intro hbl (And.intro hbc hcm))))
          have HAP := Lib.hid (fun b o (e : A5 = some ⟨b, o, none⟩) (e2 : (Value.slice R (fq j).2.out.length cl).ownBlock = some b) => HR4.out.ap b e2 (hgA b o e))
          have HGA := Lib.hid (fun b o e => HR4.out.gl b (hgA b o e))
          have em : wrap64 (wrap64 ((T : Int) - (F : Int)) - 1) = (m : Int) - 1 := by
            obtain ⟨v1, v2, v3, v4, v5⟩ := HNU.out
            obtain ⟨q1, q2, q3, q4, q5, q6, q7⟩ := HH.out
            have e0 : wrap64 ((T : Int) - (F : Int)) = (m : Int) := by rw [IntWalk.wrap64_in _ (by omega)]; omega
            rw [e0, IntWalk.wrap64_in _ (by omega)]
          have HOL := Lib.hid (show (fq j).2.out.length ≤ 10000000 from by
            have h := (HCK.out j).out
            rw [Nat.mul_add] at h
            have h1 := Nat.le_mul_of_pos_right j (show 0 < p from HH.out.1)
            have h2 := HFJ.out
            have h3 := HNU.out
            have h4 := HH.out.2.2.1
            omega)
          have HML5 := Lib.hid (show 1 ≤ m ∧ m ≤ 65536 ∧ 5 ≤ bs.length from ⟨HNU.out.2.2.2.2, by have := HNU.out; have := HH.out; omega, by rw [hbl]; exact HFIN.out.2.1⟩)
          clear KF hsl hbe hbl hbc hcm hgA hz5 hN5 hO5 hfe hr5 HR4
          by_cases hps : bs.length < m
          · have i3 : (bs.length : Int) ≤ (m : Int) - 1 := by omega
            have HPS := Lib.hid hps
            clear hps
            have HNX := Lib.hid (show fq (j + 1) = ((fq j).1 + m, ⟨0, finS (runT q sj Lq.length), (fq j).2.out ++ packedB hw3 (headB lc lp pb) m bs⟩) from by
              obtain ⟨q1, q2, q3, q4, q5, q6, q7⟩ := HH.out
              obtain ⟨v1, v2, v3, v4, v5⟩ := HNU.out
              have v6 := HFJ.out
              have hx : (cutB b p j).length = m := by rw [cutB_len]; omega
              have e1 : min (min (j * p) b.length) b.length = F := by omega
              have e2 : min (min (j * p) b.length + m) b.length = T := by omega
              have hbq : strB (runT q sj Lq.length) = bs := (beB_of HBS.out.2.1 HBS.out.2.2.1).symm
              have hst : strS b dict (min (fq j).1 b.length) (min ((fq j).1 + (cutB b p j).length) b.length) (fq j).2.how (fq j).2.s = runT q sj Lq.length := by
                rw [hx, HAT.out j, e1, e2, ← HHW.out]
                unfold strS
                rw [← HSJ.out, ← HLQ.out]
                exact HRUN.out
              rw [HSUC.out j]
              unfold stepQ
              rw [piece_packed hst (by rw [hx, ← HBS.out.2.2.1]; exact HPS.out), hx, hbq, ← HHW.out])
            obtain ⟨hd, hhd⟩ : ∃ hd, hd = [UInt8.ofNat (128 + 32 * hw3)] ++ cntB m ++ cntB bs.length := ⟨_, rfl⟩
            have HHD := Lib.hid hhd
            clear hhd
            go_wp2_with (first
              | (at_builtin; refine wpList_appO _ rfl (.tmp 97) (.tmp 122) 22 rfl (y + 1) 5 iu _ 1 Tryz.underlying22 hiu hz0 hz1 hz2 rfl _ (fq j).2.out.length _ rfl (HR5.out.row.alloc _) _ 5 5 (bv hd) rfl (sl_eq (by rw [HHD.out]; exact five_num HW3.out HML5.out.1 HML5.out.2.1 (by have := HML5.out; omega) (by have := HML5.out; have := HPS.out; omega)) (sl_bs w5 (by rw [HHD.out]; rfl) (by decide))) (bv_one _) (by have := HOL.out; omega) (by decide) (by have := HR5.out.set.lt; simp; omega) ?_)
              | fail)
            intro A6 c6 w6 ho6 hg6 hn6
            have hr6 := (HR5.out.below ((Below.refl w5.heap.size w5).alloc (Nat.le_refl _) _)).apps (news := hd) (by rw [HHD.out]; rfl) ho6 hg6 (by rcases hn6 with h | h; exact .inl h; exact .inr (h.trans (by simp)))
            have HSL6 := Lib.hid (sl_grown (HBS.out.1.alloc _) hg6 HAP.out)
            have HR6 := Lib.hid hr6
            have HAP6 := Lib.hid (fun b o (e : A5 = some ⟨b, o, none⟩) (e2 : (Value.slice A6 ((fq j).2.out.length + 5) c6).ownBlock = some b) => show False from by
              rcases hn6 with h | h
              · exact HAP.out b o e (h.symm.trans e2)
              · obtain ⟨b', o', e', hlt', _⟩ := HBS.out.1.2 (by have := HML5.out; omega)
                rw [e] at e'
                injection e' with e'
                injection e' with e'
                rw [h] at e2
                injection e2 with e2
                omega)
            obtain ⟨E, hE⟩ : ∃ E, E = (fq j).2.out ++ hd := ⟨_, rfl⟩
            have hEl : (fq j).2.out.length + 5 = E.length := by rw [hE, List.length_append, HHD.out]; rfl
            have HEE := Lib.hid hE
            rw [← hE] at hr6
            have HR6 := Lib.hid hr6
            have HEL := Lib.hid (show E.length ≤ 10000005 from by have := HOL.out; omega)
            rw [hEl] at HAP6 ⊢
            clear ho6 hg6 hn6 hr6 hE hEl HR5
            by_cases h2 : 2 ≤ hw3
            · have g2 : (hw3 : Int) ≥ 2 := by omega
              have HH2 := Lib.hid h2
              clear h2
              have KPR := Lib.hid (fun W => zprops_any (show SetOk lc lp pb dict from HH.out.2.2.2.2.2.2) W)
              have d0 : w6.cell? ⟨y, 0, none⟩ = some (.int .i64 (lc : Int)) := HR6.out.set.cell 0
              have d1 : w6.cell? ⟨y, 1, none⟩ = some (.int .i64 (lp : Int)) := HR6.out.set.cell 1
              have d2 : w6.cell? ⟨y, 2, none⟩ = some (.int .i64 (pb : Int)) := HR6.out.set.cell 2
              have d3 : w6.cell? ⟨y, 3, none⟩ = some (.int .i64 (dict : Int)) := HR6.out.set.cell 3
              go_wp2_with fail
              refine (KPR.out _).mono ?_
              rintro x w7 ⟨AP, cP, rfl, hsp, hb7⟩
              obtain ⟨bP, oP, rfl, hltP, hcP⟩ := hsp.2 (by decide)
              have p0 : w7.cell? ⟨bP, oP + 0, none⟩ = some (.int .u8 ((headB lc lp pb).toNat : Int)) := hcP 0 (by decide)
              have p1 : w7.cell? ⟨bP, oP, none⟩ = some (.int .u8 ((headB lc lp pb).toNat : Int)) := p0
              have HR7 := Lib.hid (HR6.out.below hb7)
              have HSL7 := Lib.hid (HSL6.out.below hb7)
              clear hsp hltP hcP hb7 HR6 HSL6 KPR d0 d1 d2 d3
              go_wp2_with (first
                | (at_builtin; refine wpList_appO _ rfl (.tmp 126) (.tmp 131) 22 rfl (y + 1) 5 iu _ 1 Tryz.underlying22 hiu hz0 hz1 hz2 rfl _ E.length _ rfl (HR7.out.row.alloc _) _ 1 1 (bv [headB lc lp pb]) rfl (sl_b1 w7 (headB lc lp pb)) (bv_one _) (by have := HEL.out; omega) (by decide) (by have := HR7.out.set.lt; simp; omega) ?_)
                | fail)
              intro A8 c8 w8 ho8 hg8 hn8
              have hr8 := (HR7.out.below ((Below.refl w7.heap.size w7).alloc (Nat.le_refl _) _)).apps (news := [headB lc lp pb]) rfl ho8 hg8 (by rcases hn8 with h | h; exact .inl h; exact .inr (h.trans (by simp)))
              have HSL8 := Lib.hid (show Sl w8 A5 bs.length (bv bs) from sl_grown (HSL7.out.alloc _) hg8 HAP6.out)
              obtain ⟨E2, hE2⟩ : ∃ E2, E2 = E ++ [headB lc lp pb] := ⟨_, rfl⟩
              have hEl2 : E.length + 1 = E2.length := by rw [hE2, List.length_append]; rfl
              have HE2 := Lib.hid hE2
              rw [← hE2] at hr8
              have HR8 := Lib.hid hr8
              have HEL8 := Lib.hid (show E2.length ≤ 10000006 from by have := HEL.out; omega)
              rw [hEl2]
              clear ho8 hg8 hn8 hr8 hE2 hEl2 HR7 HSL7 p0 p1
              have HOUT := Lib.hid (show (fq (j + 1)).2.out = E2 ++ bs from by
                rw [HNX.out, HE2.out, HEE.out]
                show (fq j).2.out ++ packedB hw3 (headB lc lp pb) m bs = _
                unfold packedB
                rw [if_pos HH2.out, HHD.out]
                simp only [List.append_assoc])
              go_wp2_with (first
                | (at_builtin; refine wpList_appO _ rfl (.tmp 133) (.tmp 134) 22 rfl (y + 1) 5 iu _ 1 Tryz.underlying22 hiu hz0 hz1 hz2 rfl _ E2.length _ rfl HR8.out.row _ bs.length _ (bv bs) rfl HSL8.out (bv_one _) (by have := HEL8.out; have := HPS.out; have := HML5.out; omega) (by decide) (by have := HR8.out.set.lt; omega) ?_)
                | fail)
              intro A9 c9 w9 ho9 hg9 hn9
              have hr9 := HR8.out.apps (news := bs) rfl ho9 hg9 hn9
              rw [← HOUT.out] at hr9
              have hs9 : (fq (j + 1)).2.s = finS (runT q sj Lq.length) := by rw [HNX.out]
              rw [← hs9] at hr9
              have HR9 := Lib.hid hr9
              have hol : E2.length + bs.length = (fq (j + 1)).2.out.length := by rw [HOUT.out, List.length_append]
              have hh9 : (fq (j + 1)).2.how = 0 := by rw [HNX.out]
              have HH9 := Lib.hid hh9
              have hjp : (j + 1) * p ≠ 0 := by
                have := HH.out.1
                have := Nat.le_mul_of_pos_left p (show 0 < j + 1 by omega)
                omega
              have HJP := Lib.hid hjp
              have e13 : ((F + p : Nat) : Int) = (((j + 1) * p : Nat) : Int) := by rw [HFJ.out, Nat.add_mul, Nat.one_mul]
              have hww : wrap64 ((F : Int) + (p : Int)) = ((F + p : Nat) : Int) := HE.out.2
              rw [hol]
              clear ho9 hg9 hn9 hr9 hs9 hol hh9 hjp HR8 HSL8
              go_wp2_with fail
              go_roundw
              case rel =>
                refine ⟨j + 1, true, false, A9, c9, G5, rfl, rfl, rfl, ?_, ?_, HR9.out, ?_, ?_⟩
                · exact congrArg (Value.int .i64) (hww.trans e13)
                · exact (HML.out j).2 (by have := HFJ.out; have := HNU.out; omega)
                · rw [HH9.out]; exact howR_packed HJP.out
                · intro h0; exact absurd h0 HJP.out
              case measure => first | exact rq_meas HNU.out.1 HH.out.1 | (rw [hww]; exact rq_meas HNU.out.1 HH.out.1)
            · have g2 : ¬ (hw3 : Int) ≥ 2 := by omega
              have HH2 := Lib.hid h2
              clear h2
              have HOUT := Lib.hid (show (fq (j + 1)).2.out = E ++ bs from by
                rw [HNX.out, HEE.out]
                show (fq j).2.out ++ packedB hw3 (headB lc lp pb) m bs = _
                unfold packedB
                rw [if_neg HH2.out, HHD.out]
                simp only [List.append_assoc, List.append_nil, List.nil_append])
              go_wp2_with (first
                | (at_builtin; refine wpList_appO _ rfl (.tmp 133) (.tmp 134) 22 rfl (y + 1) 5 iu _ 1 Tryz.underlying22 hiu hz0 hz1 hz2 rfl _ E.length _ rfl HR6.out.row _ bs.length _ (bv bs) rfl HSL6.out (bv_one _) (by have := HEL.out; have := HPS.out; have := HML5.out; omega) (by decide) (by have := HR6.out.set.lt; omega) ?_)
                | fail)
              intro A9 c9 w9 ho9 hg9 hn9
              have hr9 := HR6.out.apps (news := bs) rfl ho9 hg9 hn9
              rw [← HOUT.out] at hr9
              have hs9 : (fq (j + 1)).2.s = finS (runT q sj Lq.length) := by rw [HNX.out]
              rw [← hs9] at hr9
              have HR9 := Lib.hid hr9
              have hol : E.length + bs.length = (fq (j + 1)).2.out.length := by rw [HOUT.out, List.length_append]
              have hh9 : (fq (j + 1)).2.how = 0 := by rw [HNX.out]
              have HH9 := Lib.hid hh9
              have hjp : (j + 1) * p ≠ 0 := by
                have := HH.out.1
                have := Nat.le_mul_of_pos_left p (show 0 < j + 1 by omega)
                omega
              have HJP := Lib.hid hjp
              have e13 : ((F + p : Nat) : Int) = (((j + 1) * p : Nat) : Int) := by rw [HFJ.out, Nat.add_mul, Nat.one_mul]
              have hww : wrap64 ((F : Int) + (p : Int)) = ((F + p : Nat) : Int) := HE.out.2
              rw [hol]
              clear ho9 hg9 hn9 hr9 hs9 hol hh9 hjp HR6 HSL6
              go_wp2_with fail
              go_roundw
              case rel =>
                refine ⟨j + 1, true, false, A9, c9, G5, rfl, rfl, rfl, ?_, ?_, HR9.out, ?_, ?_⟩
                · exact congrArg (Value.int .i64) (hww.trans e13)
                · exact (HML.out j).2 (by have := HFJ.out; have := HNU.out; omega)
                · rw [HH9.out]; exact howR_packed HJP.out
                · intro h0; exact absurd h0 HJP.out
              case measure => first | exact rq_meas HNU.out.1 HH.out.1 | (rw [hww]; exact rq_meas HNU.out.1 HH.out.1)
          · have i3 : ¬ (bs.length : Int) ≤ (m : Int) - 1 := by omega
            have HPS := Lib.hid hps
            clear hps
            obtain ⟨cc, hcc⟩ : ∃ cc : Nat, cc = (if hw3 = 3 then 1 else 2) := ⟨_, rfl⟩
            have HCC := Lib.hid (show cc = (if F = 0 then 1 else 2) from by
              rw [hcc, HHW.out, HOW.out.1, ← HFJ.out]
              exact howR_first HOW.out.2 HFJ.out)
            have HC3 := Lib.hid hcc
            clear hcc
            go_upto_if 137 with fail
            go_cut [21] from 137 to 137 (fun v wx => v = .int .u8 (cc : Int) ∧ wx = w5)
            case first =>
              as_aux_lemma =>
                by_cases h0 : F = 0
                · have i4 : ((F : Int) == 0) = true := by simp [h0]
                  have HX := Lib.hid (show cc = 1 by rw [HCC.out, if_pos h0])
                  clear h0
                  go_wp2_with fail
                  go_meet
                  exact ⟨by rw [HX.out]; rfl, rfl⟩
                · have i4 : ((F : Int) == 0) = false := by simp [h0]
                  have HX := Lib.hid (show cc = 2 by rw [HCC.out, if_neg h0])
                  clear h0
                  go_wp2_with fail
                  go_meet
                  exact ⟨by rw [HX.out]; rfl, rfl⟩
            case rest =>
            obtain ⟨rfl, hw⟩ := hcut
            rw [hw]
            clear hw wc
            have HNX := Lib.hid (show fq (j + 1) = ((fq j).1 + m, ⟨nextH hw3, finS (runT q sj Lq.length), (fq j).2.out ++ plainB hw3 (cutB b p j)⟩) from by
              obtain ⟨q1, q2, q3, q4, q5, q6, q7⟩ := HH.out
              obtain ⟨v1, v2, v3, v4, v5⟩ := HNU.out
              have v6 := HFJ.out
              have hx : (cutB b p j).length = m := by rw [cutB_len]; omega
              have e1 : min (min (j * p) b.length) b.length = F := by omega
              have e2 : min (min (j * p) b.length + m) b.length = T := by omega
              have hst : strS b dict (min (fq j).1 b.length) (min ((fq j).1 + (cutB b p j).length) b.length) (fq j).2.how (fq j).2.s = runT q sj Lq.length := by
                rw [hx, HAT.out j, e1, e2, ← HHW.out]
                unfold strS
                rw [← HSJ.out, ← HLQ.out]
                exact HRUN.out
              rw [HSUC.out j]
              unfold stepQ
              rw [piece_plain hst (by rw [hx, ← HBS.out.2.2.1]; exact HPS.out), hx, ← HHW.out])
            obtain ⟨hd, hhd⟩ : ∃ hd, hd = [UInt8.ofNat cc] ++ cntB m := ⟨_, rfl⟩
            have HHD := Lib.hid hhd
            clear hhd
            have HC2 := Lib.hid (show cc ≤ 2 by rw [HC3.out]; split <;> omega)
            go_wp2_with (first
              | (at_builtin; refine wpList_appO _ rfl (.tmp 138) (.tmp 146) 22 rfl (y + 1) 5 iu _ 1 Tryz.underlying22 hiu hz0 hz1 hz2 rfl _ (fq j).2.out.length _ rfl (HR5.out.row.alloc _) _ 3 3 (bv hd) rfl (sl_eq (by rw [HHD.out]; exact three_num HC2.out HML5.out.1 HML5.out.2.1) (sl_bs w5 (by rw [HHD.out]; rfl) (by decide))) (bv_one _) (by have := HOL.out; omega) (by decide) (by have := HR5.out.set.lt; simp; omega) ?_)
              | fail)
            intro A6 c6 w6 ho6 hg6 hn6
            have hr6 := (HR5.out.below ((Below.refl w5.heap.size w5).alloc (Nat.le_refl _) _)).apps (news := hd) (by rw [HHD.out]; rfl) ho6 hg6 (by rcases hn6 with h | h; exact .inl h; exact .inr (h.trans (by simp)))
            obtain ⟨E, hE⟩ : ∃ E, E = (fq j).2.out ++ hd := ⟨_, rfl⟩
            have hEl : (fq j).2.out.length + 3 = E.length := by rw [hE, List.length_append, HHD.out]; rfl
            have HEE := Lib.hid hE
            rw [← hE] at hr6
            have HR6 := Lib.hid hr6
            have HEL := Lib.hid (show E.length ≤ 10000005 from by have := HOL.out; omega)
            rw [hEl]
            clear ho6 hg6 hn6 hr6 hE hEl HR5
            obtain ⟨qb, ob, rfl, _, _⟩ := HS.out.2 (by have := HNU.out; omega)
            have HSC := Lib.hid (show Sl w6 (some ⟨qb, ob + F, none⟩) (T - F) (bv (cutB b p j)) from by
              have h := cutB_sl (p := p) (j := j) (HS.out.below HR6.out.bel) (by have := HFJ.out; have := HNU.out; omega)
              rw [← HFJ.out] at h
              have e : min p (n - F) = T - F := by have := HNU.out; omega
              rwa [e] at h)
            have HTF := Lib.hid (show T - F = m ∧ T - F ≤ 65536 ∧ (cutB b p j).length = T - F from by
              obtain ⟨v1, v2, v3, v4, v5⟩ := HNU.out
              have := HH.out.2.2.1
              refine ⟨by omega, by omega, ?_⟩
              rw [cutB_len, ← HFJ.out, HH.out.2.2.2.1]
              omega)
            have HOUT := Lib.hid (show (fq (j + 1)).2.out = E ++ cutB b p j from by
              rw [HNX.out, HEE.out]
              show (fq j).2.out ++ plainB hw3 (cutB b p j) = _
              have e : plainB hw3 (cutB b p j) = hd ++ cutB b p j := by
                rw [HHD.out, HC3.out]
                unfold plainB
                rw [HTF.out.2.2, HTF.out.1]
                split <;> rfl
              rw [e, List.append_assoc])
            have s1 : (F : Int) ≤ (T : Int) := by have := HNU.out; omega
            have s2 : (T : Int) ≤ (c : Int) := by have := HNU.out; have := HH.out; omega
            have s3 : ¬ c = F := by have := HNU.out; have := HH.out; omega
            go_wp2_with (first
              | (at_builtin; refine wpList_appO _ rfl (.tmp 148) (.tmp 152) 22 rfl (y + 1) 5 iu _ 1 Tryz.underlying22 hiu hz0 hz1 hz2 rfl _ E.length _ rfl HR6.out.row _ (T - F) _ (bv (cutB b p j)) rfl HSC.out (bv_one _) (by have := HEL.out; have := HTF.out; omega) (by decide) (by have := HR6.out.set.lt; omega) ?_)
              | fail)
            intro A9 c9 w9 ho9 hg9 hn9
            have hr9 := HR6.out.apps (news := cutB b p j) HTF.out.2.2 ho9 hg9 hn9
            rw [← HOUT.out] at hr9
            have hs9 : (fq (j + 1)).2.s = finS (runT q sj Lq.length) := by rw [HNX.out]
            rw [← hs9] at hr9
            have HR9 := Lib.hid hr9
            have hol : E.length + (T - F) = (fq (j + 1)).2.out.length := by rw [HOUT.out, List.length_append, HTF.out.2.2]
            have hh9 : (fq (j + 1)).2.how = nextH hw3 := by rw [HNX.out]
            have HH9 := Lib.hid hh9
            have hjp : (j + 1) * p ≠ 0 := by
              have := HH.out.1
              have := Nat.le_mul_of_pos_left p (show 0 < j + 1 by omega)
              omega
            have HJP := Lib.hid hjp
            have e13 : ((F + p : Nat) : Int) = (((j + 1) * p : Nat) : Int) := by rw [HFJ.out, Nat.add_mul, Nat.one_mul]
            have hww : wrap64 ((F : Int) + (p : Int)) = ((F + p : Nat) : Int) := HE.out.2
            rw [hol]
            clear ho9 hg9 hn9 hr9 hs9 hol hh9 hjp HR6 s1 s2 s3
            go_wp2_with fail
            go_roundw
            case rel =>
              refine ⟨j + 1, any, true, A9, c9, G5, rfl, rfl, rfl, ?_, ?_, HR9.out, ?_, ?_⟩
              · exact congrArg (Value.int .i64) (hww.trans e13)
              · exact (HML.out j).2 (by have := HFJ.out; have := HNU.out; omega)
              · rw [HH9.out, HHW.out, HOW.out.1]; exact howR_plain HOW.out.2 HJP.out
              · intro h0; exact absurd h0 HJP.out
            case measure => first | exact rq_meas HNU.out.1 HH.out.1 | (rw [hww]; exact rq_meas HNU.out.1 HH.out.1)
    · obtain rfl : j = manyN n p := by
        refine Nat.le_antisymm HJ.out ?_
        refine Nat.not_lt.1 fun h => hlt ?_
        rw [HFJ.out]
        exact (HML.out j).1 h
      have i1 : ¬ (F : Int) < (n : Int) := by omega
      have d3 : wr.cell? ⟨y, 3, none⟩ = some (.int .i64 (dict : Int)) := HR.out.set.cell 3
      have KQ := Lib.hid (fun W => rprop_any (dict : Int) W)
      clear hr hhow hany hF hj hlt
      go_wp2_with fail
      refine (KQ.out _).mono ?_
      rintro x w5 ⟨r, cd, rfl, hprop, hb5⟩
      have HR5 := Lib.hid (HR.out.below hb5)
      have HP5 := Lib.hid hprop
      have hc0 := prop_has hprop HH.out.2.2.2.2.2.2.2.2.2.2
      subst hc0
      clear hb5 KQ HR d3 hprop
      have HOL := Lib.hid (show (fq (manyN n p)).2.out.length ≤ 10000000 from by
        have h := (HCK.out (manyN n p)).out
        have h2 : manyN n p * p ≤ n + (p - 1) := many_mul
        have h3 : manyN n p ≤ n + (p - 1) := many_le HH.out.1
        have h4 := HH.out.2.1
        have h5 := HH.out.2.2.1
        rw [Nat.mul_add] at h
        omega)
      go_wp2_with (first
        | (at_builtin; refine wpList_appO _ rfl (.tmp 160) (.tmp 161) 22 rfl (y + 1) 5 iu _ 1 Tryz.underlying22 hiu hz0 hz1 hz2 rfl _ (fq (manyN n p)).2.out.length _ rfl (HR5.out.row.alloc _) _ 1 1 (bv [0]) rfl (sl_b1 w5 0) (bv_one _) (by have := HOL.out; omega) (by decide) (by have := HR5.out.set.lt; simp; omega) ?_)
        | fail)
      intro A6 c6 w6 ho6 hg6 hn6
      have hr6 := (HR5.out.below ((Below.refl w5.heap.size w5).alloc (Nat.le_refl _) _)).apps (news := [0]) rfl ho6 hg6 (by rcases hn6 with h | h; exact .inl h; exact .inr (h.trans (by simp)))
      have hpk2 : packN b lc lp pb dict p = (fq (manyN n p)).2.out ++ [0] := by rw [HPK.out, HH.out.2.2.2.1]
      have hlen : (fq (manyN n p)).2.out.length + 1 = (packN b lc lp pb dict p).length := by rw [hpk2, List.length_append]; rfl
      rw [← hpk2] at hr6
      have HR6 := Lib.hid hr6
      rw [hlen]
      clear ho6 hg6 hn6 hr6 hpk2 hlen HR5
      go_wp2_with fail
      go_ret3
      obtain ⟨_, hle, hcm, _⟩ := own_facts HR6.out.row
      exact ⟨A6, c6, r, rfl, Sl.of_own HR6.out.row, hle, hcm, HP5.out, HR6.out.bel⟩
end Go.Proofs.YtoencondpbkomaaGreat
