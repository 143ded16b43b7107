/-
  The law WindowMem, walked over what the program's window owes.
-/
import Derived.Test.YtnokbibkjhhcoaaWnAwake
import Derived.Lib.MinMax
namespace Go.Proofs.Ytnokbibkjhhcoaa
open Go.RowKit

theorem quo_lit {n : Int} (h : -9223372036854775808 ≤ n ∧ n ≤ 9223372036854775807) : Lit64 ⟨n, 0, 0, 0, 0⟩ := by
  constructor <;> dsimp only <;> omega
theorem mem_ok {n mem : Int} (h1 : 1 ≤ n) (h : n ≤ mem) : fits Tel.zero.code Tel.zero.mem (Quo.up ⟨mem, 0, 0, 0, 0⟩).mem n ∧ Tel.zero.doMem (Quo.up ⟨mem, 0, 0, 0, 0⟩) n = ⟨n, n, 0, 0, 0, 0, 0⟩ := by
  have hf : (0 : Int) = 0 ∧ max n 0 ≤ max mem 0 - 0 := ⟨rfl, by omega⟩
  refine ⟨hf, ?_⟩
  have e1 : wasOf 0 0 (max mem 0) n = n := by unfold wasOf; rw [if_pos hf]; omega
  have e2 : codeOf 0 0 (max mem 0) n 101 = 0 := by unfold codeOf; rw [if_neg (by omega)]
  show (⟨wasOf 0 0 (max mem 0) n, max 0 (wasOf 0 0 (max mem 0) n), 0, 0, 0, 0, codeOf 0 0 (max mem 0) n 101⟩ : Tel) = _
  rw [e1, e2, show max 0 n = n by omega]
theorem mem_over {n mem : Int} (h1 : 1 ≤ n) (h : ¬ n ≤ mem) : ¬ fits Tel.zero.code Tel.zero.mem (Quo.up ⟨mem, 0, 0, 0, 0⟩).mem n ∧ Tel.zero.doMem (Quo.up ⟨mem, 0, 0, 0, 0⟩) n = ⟨0, 0, 0, 0, 0, 0, 101⟩ := by
  have hf : ¬ ((0 : Int) = 0 ∧ max n 0 ≤ max mem 0 - 0) := by omega
  refine ⟨hf, ?_⟩
  have e1 : wasOf 0 0 (max mem 0) n = 0 := by unfold wasOf; rw [if_neg hf]
  have e2 : codeOf 0 0 (max mem 0) n 101 = 101 := by unfold codeOf; rw [if_pos (by omega)]
  show (⟨wasOf 0 0 (max mem 0) n, max 0 (wasOf 0 0 (max mem 0) n), 0, 0, 0, 0, codeOf 0 0 (max mem 0) n 101⟩ : Tel) = _
  rw [e1, e2]
  rfl
theorem mem_freed {n : Int} (h1 : 1 ≤ n) : (⟨n, n, 0, 0, 0, 0, 0⟩ : Tel).doFree n = ⟨0, n, 0, 0, 0, 0, 0⟩ := by
  show (⟨max (n - max n 0) 0, n, 0, 0, 0, 0, 0⟩ : Tel) = _
  rw [show max (n - max n 0) 0 = 0 by omega]

/-- what the meter tells behind j closings -/
def memTel (n : Int) (j : Nat) : Tel := ⟨if j = 0 then n else 0, n, 0, 0, 0, 0, 0⟩
/-- and the window -/
def memWs (n : Int) (j : Nat) : Ws := if j = 0 then Ws.new n else (Ws.new n).close
theorem memWs_sz (n : Int) (j : Nat) (h : 1 ≤ n) : ((memWs n j).sz : Int) = n := by
  unfold memWs
  split
  · show (((max n 1).toNat : Nat) : Int) = n; omega
  · show (((max n 1).toNat : Nat) : Int) = n; omega
theorem memWs_shut (n : Int) (j : Nat) : (memWs n (j + 1)).shut = true := by unfold memWs; rw [if_neg (by omega)]; rfl
theorem memWs_len (n : Int) (j : Nat) : (memWs n j).l.length = 0 := by unfold memWs; split <;> rfl
theorem memWs_close (n : Int) (j : Nat) : (memWs n j).close = memWs n (j + 1) := by
  unfold memWs
  rw [if_neg (by omega : ¬ j + 1 = 0)]
  split <;> rfl
theorem memTel_next {n : Int} (j : Nat) (h : 1 ≤ n) : (if (memWs n j).shut = true then memTel n j else (memTel n j).doFree (((memWs n j).sz : Nat) : Int)) = memTel n (j + 1) := by
  cases j with
  | zero =>
    rw [memWs_sz n 0 h]
    exact mem_freed h
  | succ j => rw [memWs_shut, if_pos rfl]; rfl
theorem memFine {n mem : Int} (j : Nat) (h1 : 1 ≤ n) (h2 : n ≤ mem) (h3 : mem ≤ 9223372036854775807) : Fine (Quo.up ⟨mem, 0, 0, 0, 0⟩) (memTel n j) := by
  unfold memTel Quo.up
  constructor <;> dsimp only <;> first | omega | (split <;> omega)

theorem new_max (sz : Int) : Ws.new sz = memWs (max sz 1) 0 := by
  unfold memWs Ws.new
  rw [if_pos rfl, show max (max sz 1) 1 = max sz 1 by omega]

/-- What a close leaves, as the law asks it. -/
def CloseW (Pw : World → Nat → (Nat → Prop) → Nat → Ws → Prop) (w W : World) (g m : Nat) (q : Quo) (n : Int) (j : Nat) (x : Ending) (w' : World) : Prop :=
  x = .returned (.tuple #[]) ∧ ∃ G', Pw w' g G' m (memWs n (j + 1)) ∧ MeterAt w' 60 m q (memTel n (j + 1)) ∧ (∀ i, G' i → w.heap.size ≤ i) ∧ ¬ G' m ∧ Below w.heap.size w w'
theorem close_step {Pw : World → Nat → (Nat → Prop) → Nat → Ws → Prop} (C : WinCon Pw) {w W : World} {g m j : Nat} {G : Nat → Prop} {n mem : Int} (hP : Pw W g G m (memWs n j)) (hM : MeterAt W 60 m (Quo.up ⟨mem, 0, 0, 0, 0⟩) (memTel n j)) (h1 : 1 ≤ n) (hn : n ≤ 1048576) (h2 : n ≤ mem) (h3 : mem ≤ 9223372036854775807)
    (hG : ∀ i, G i → w.heap.size ≤ i) (hGm : ¬ G m) (hm : w.heap.size ≤ m) (hB : Below w.heap.size w W) :
    Calls Try.prog 17 #[.pointer (some ⟨g, 0, none⟩)] W (CloseW Pw w W g m (Quo.up ⟨mem, 0, 0, 0, 0⟩) n j) := by
  have hsz := memWs_sz n j h1
  have hlt := hM.lt
  refine (C.close hP (by omega) hM (memFine j h1 h2 h3) hGm).mono ?_
  rintro x w' ⟨rfl, G', hP', hM', hN, hO⟩
  rw [memWs_close] at hP'
  rw [memTel_next j h1] at hM'
  refine ⟨rfl, G', hP', hM', con_new (Nat.le_refl _) hB hG hN, fun h => ?_, hB.trans (hO.below hB.size (fun i hi => ?_))⟩
  · rcases hN m h with h | h
    · exact hGm h
    · omega
  · rcases hi with hi | hi
    · exact hG i hi
    · omega

/-- What a put into the closed window leaves. -/
theorem put_step {Pw : World → Nat → (Nat → Prop) → Nat → Ws → Prop} (C : WinCon Pw) {w W : World} {g m j : Nat} {G : Nat → Prop} {n : Int} {q : Quo} {t : Tel} {b : UInt8} (hP : Pw W g G m (memWs n (j + 1))) (hM : MeterAt W 60 m q t) (h1 : 1 ≤ n) (hn : n ≤ 1048576)
    (hG : ∀ i, G i → w.heap.size ≤ i) (hGm : ¬ G m) (hB : Below w.heap.size w W) :
    Calls Try.prog 11 #[.pointer (some ⟨g, 0, none⟩), .int .u8 (b.toNat : Int)] W fun x w' => x = .returned (.tuple #[]) ∧ ∃ G', Pw w' g G' m (memWs n (j + 1)) ∧ MeterAt w' 60 m q t ∧ (∀ i, G' i → w.heap.size ≤ i) ∧ ¬ G' m ∧ Below w.heap.size w w' := by
  have hsz := memWs_sz n (j + 1) h1
  have hlt := hM.lt
  refine (C.put (b := b) hP (by omega) (by rw [memWs_len]; omega)).mono ?_
  rintro x w' ⟨rfl, G', hP', hN, hO⟩
  rw [shut_put (memWs_shut n j)] at hP'
  refine ⟨rfl, G', hP', Blk.only hM hO hGm, con_new (Nat.le_refl _) hB hG hN, fun h => ?_, con_below (Nat.le_refl _) hB hG hO⟩
  rcases hN m h with h | h
  · exact hGm h
  · omega
theorem copy_step {Pw : World → Nat → (Nat → Prop) → Nat → Ws → Prop} (C : WinCon Pw) {w W : World} {g m j : Nat} {G : Nat → Prop} {n : Int} {q : Quo} {t : Tel} (hP : Pw W g G m (memWs n (j + 1))) (hM : MeterAt W 60 m q t) (h1 : 1 ≤ n) (hn : n ≤ 1048576)
    (hG : ∀ i, G i → w.heap.size ≤ i) (hGm : ¬ G m) (hB : Below w.heap.size w W) :
    Calls Try.prog 14 #[.pointer (some ⟨g, 0, none⟩), .int .i64 0] W fun x w' => x = .returned (.int .u8 0) ∧ ∃ G', Pw w' g G' m (memWs n (j + 1)) ∧ MeterAt w' 60 m q t ∧ (∀ i, G' i → w.heap.size ≤ i) ∧ ¬ G' m ∧ Below w.heap.size w w' := by
  have hsz := memWs_sz n (j + 1) h1
  have hlt := hM.lt
  refine (C.copy (d := 0) hP (by omega) (by rw [memWs_len]; omega) (by decide) (by decide)).mono ?_
  rintro x w' ⟨rfl, G', hP', hN, hO⟩
  rw [shut_copy (memWs_shut n j)] at hP'
  rw [at_not (shut_has (memWs_shut n j))]
  refine ⟨rfl, G', hP', Blk.only hM hO hGm, con_new (Nat.le_refl _) hB hG hN, fun h => ?_, con_below (Nat.le_refl _) hB hG hO⟩
  rcases hN m h with h | h
  · exact hGm h
  · omega

set_option maxRecDepth 100000 in
set_option maxHeartbeats 8000000 in
theorem windowMem_walk {Pw : World → Nat → (Nat → Prop) → Nat → Ws → Prop} (C : WinCon Pw) (Aw : AwakeCon7) {size mem : Int} {k : Nat} {w : World} (hs : -9223372036854775808 ≤ size ∧ size ≤ 9223372036854775807) (hm : -9223372036854775808 ≤ mem ∧ mem ≤ 9223372036854775807) (hk : k < 256) :
    Calls Try.prog 5 #[.int .i64 size, .int .i64 mem, .int .u8 (k : Int)] w fun e w' => e = .returned (.bool true) ∧ Below w.heap.size w w' := by
  have hfd0 : ∀ (a b : Int) (w : World), (Instr.field 47 (.agg #[.int .i64 a, .int .i64 b, .int .i64 0, .int .i64 0, .int .i64 0, .int .i64 0]) 0).run Try.prog w = .ok (.int .i64 a) w := fun _ _ _ => by kernel_rfl
  have hfd1 : ∀ (a b : Int) (w : World), (Instr.field 47 (.agg #[.int .i64 a, .int .i64 b, .int .i64 0, .int .i64 0, .int .i64 0, .int .i64 0]) 1).run Try.prog w = .ok (.int .i64 b) w := fun _ _ _ => by kernel_rfl
  have HM := Lib.hid hm
  have HK := Lib.hid hk
  clear hm hk
  go_enter Try.func5, Try.ntmps5
  go_wp2_with fail
  refine (Aw w).mono ?_
  rintro e w1 ⟨rfl, hb1⟩
  have HB1 := Lib.hid hb1
  clear hb1
  by_cases hbig : size > 1048576
  · obtain ⟨sz, hsz⟩ : ∃ sz, sz = size.tmod 1048576 := ⟨_, rfl⟩
    have e1 : size.tmod 1048576 = sz := hsz.symm
    have HSZ := Lib.hid (show -9223372036854775808 ≤ sz ∧ sz ≤ 1048576 by rw [hsz, Int.tmod_eq_emod_of_nonneg (by omega)]; omega)
    clear hs hsz
    go_wp2_with fail
    have hn1 : 1 ≤ max sz 1 := by omega
    have hn2 : max sz 1 ≤ 1048576 := by have := HSZ.out; omega
    refine (mnew_any ⟨mem, 0, 0, 0, 0⟩ w1).mono ?_
    rintro e w2 ⟨m, rfl, hM, hmm, hb2⟩
    have HB2 := Lib.hid (HB1.out.trans (hb2.mono HB1.out.size))
    have HMM := Lib.hid (show w.heap.size ≤ m by have := HB1.out.size; omega)
    have HML := Lib.hid hM.lt
    by_cases hle : max sz 1 ≤ mem
    · obtain ⟨f1, f2⟩ := mem_ok hn1 hle
      have K := C.new (n := sz) hM (Fine.new (quo_lit HM.out)) HSZ.out.1 HSZ.out.2 f1
      rw [f2, new_max] at K
      have HK1 := Lib.hid K
      clear hM hmm hb2 f1 f2 K e1
      generalize max sz 1 = n at *
      have hgt : ¬ n > mem := by omega
      have HN := Lib.hid (show 1 ≤ n ∧ n ≤ 1048576 ∧ n ≤ mem from ⟨hn1, hn2, hle⟩)
      clear hn1 hn2 hle
      go_wp2_with fail
      refine HK1.out.mono ?_
      rintro e w3 ⟨g, G, rfl, hP, hM3, hG, hO⟩
      have hB3 : Below w.heap.size w w3 := HB2.out.trans (hO.below HB2.out.size (fun i hi => by have := HMM.out; omega))
      have U := Lib.hid (show Calls Try.prog 22 #[.pointer (some ⟨m, 0, none⟩)] w3 fun e w' => e = .returned (.agg #[.int .i64 n, .int .i64 n, .int .i64 0, .int .i64 0, .int .i64 0, .int .i64 0]) ∧ Below w3.heap.size w3 w' from used_any hM3)
      have HP := Lib.hid hP
      have HMT := Lib.hid (show MeterAt w3 60 m (Quo.up ⟨mem, 0, 0, 0, 0⟩) (memTel n 0) from hM3)
      have HG := Lib.hid (show (∀ i, G i → w.heap.size ≤ i) ∧ ¬ G m from ⟨fun i hi => by have := hG i hi; have := HB2.out.size; omega, fun h => by have := hG m h; have := HML.out; omega⟩)
      have HB3 := Lib.hid hB3
      clear hP hM3 hG hO hB3 HK1
      go_wp2_with fail
      refine U.out.mono ?_
      rintro e w4 ⟨rfl, hb4⟩
      have HP4 := Lib.hid (C.only HP.out (Only.of_below (S := fun _ => False) hb4) (fun _ _ h => h))
      have HMT4 := Lib.hid (HMT.out.below hb4)
      have HB4 := Lib.hid (HB3.out.trans (hb4.mono HB3.out.size))
      clear hb4 U HP HMT HB3
      go_wp2_with fail
      obtain ⟨r, hr⟩ : ∃ r, r = k % 4 := ⟨_, rfl⟩
      have r1 : (k : Int).tmod 4 = (r : Int) := by rw [Int.tmod_eq_emod_of_nonneg (by omega)]; omega
      have r2 : IntKind.u8.wrap (r : Int) = (r : Int) := by simp [IntKind.wrap, IntKind.bits, IntKind.signed]; omega
      have r3 : IntKind.i64.wrap (r : Int) = (r : Int) := IntWalk.i64_in _ (by omega)
      have HR := Lib.hid (show r < 4 by omega)
      clear hr
      go_loopw [11] (fun i wr => ∃ (j : Nat) (G' : Nat → Prop), j ≤ r ∧ i = .int .i64 (j : Int) ∧ Pw wr g G' m (memWs n j) ∧ MeterAt wr 60 m (Quo.up ⟨mem, 0, 0, 0, 0⟩) (memTel n j) ∧ (∀ i, G' i → w.heap.size ≤ i) ∧ ¬ G' m ∧ Below w.heap.size w wr) (fun i _ => r - (intOf i).toNat)
      case atStart => exact ⟨0, G, Nat.zero_le _, rfl, HP4.out, HMT4.out, HG.out.1, HG.out.2, HB4.out⟩
      case round =>
        clear HP4 HMT4 HG HB4
        obtain ⟨j, G', hj, rfl, hP, hMT, hG, hGm, hB⟩ := hrel
        by_cases hlt : j < r
        · have K1 := Lib.hid (close_step C hP hMT HN.out.1 HN.out.2.1 HN.out.2.2 HM.out.2 hG hGm HMM.out hB)
          have hlt' : (j : Int) < (r : Int) := by omega
          have ej : IntKind.i64.wrap ((j : Int) + 1) = (j : Int) + 1 := IntWalk.i64_in _ (by have := HR.out; omega)
          clear hP hMT hG hGm hB
          go_wp2_with fail
          refine K1.out.mono ?_
          intro e w5 h5
          obtain ⟨rfl, G5, hP, hMT, hG, hGm, hB⟩ := h5
          have K2 := Lib.hid (show Calls Try.prog 11 #[.pointer (some ⟨g, 0, none⟩), .int .u8 5] w5 _ from put_step (b := 5) C hP hMT HN.out.1 HN.out.2.1 hG hGm hB)
          clear hP hMT hG hGm hB K1
          go_wp2_with fail
          refine K2.out.mono ?_
          rintro e w6 ⟨rfl, G6, hP, hMT, hG, hGm, hB⟩
          have U := Lib.hid (show Calls Try.prog 22 #[.pointer (some ⟨m, 0, none⟩)] w6 fun e w' => e = .returned (.agg #[.int .i64 0, .int .i64 n, .int .i64 0, .int .i64 0, .int .i64 0, .int .i64 0]) ∧ Below w6.heap.size w6 w' from used_any hMT)
          have HP := Lib.hid hP
          have HMT := Lib.hid hMT
          have HG := Lib.hid (show (∀ i, G6 i → w.heap.size ≤ i) ∧ ¬ G6 m from ⟨hG, hGm⟩)
          have HB := Lib.hid hB
          clear hP hMT hG hGm hB K2
          go_wp2_with fail
          refine U.out.mono ?_
          rintro e w7 ⟨rfl, hb7⟩
          have hP7 := C.only HP.out (Only.of_below (S := fun _ => False) hb7) (fun _ _ h => h)
          have hM7 := HMT.out.below hb7
          have hB7 := HB.out.trans (hb7.mono HB.out.size)
          have hsz := memWs_sz n (j + 1) HN.out.1
          have K3 := C.has (d := 0) hP7 (by have := HN.out; omega) (by decide) (by decide)
          rw [shut_has (memWs_shut n j)] at K3
          have HK3 := Lib.hid K3
          have HK4 := Lib.hid (fun d => copy_step C (C.drewN hP7 d) (hM7.drewN d) HN.out.1 HN.out.2.1 HG.out.1 HG.out.2 (below_drewN hB7 d))
          have HZ := Lib.hid (show (memWs n (j + 1)).sz ≤ 1048576 by have := HN.out; omega)
          clear hb7 hP7 hM7 hB7 hsz K3 U HP HMT HG HB
          go_wp2_with fail
          refine HK3.out.mono ?_
          rintro e w8 ⟨rfl, d8, rfl⟩
          clear HK3
          go_wp2_with fail
          refine (HK4.out _).mono ?_
          rintro e w9 ⟨rfl, G9, hP, hMT, hG, hGm, hB⟩
          have K5 := C.count hP HZ.out
          rw [shut_count (memWs_shut n j)] at K5
          have HK5 := Lib.hid (show Calls Try.prog 20 #[.pointer (some ⟨g, 0, none⟩)] w9 fun x w' => x = .returned (.int .i64 0) ∧ ∃ k, w9.drewN k = w' from K5)
          have HP := Lib.hid hP
          have HMT := Lib.hid hMT
          have HG := Lib.hid (show (∀ i, G9 i → w.heap.size ≤ i) ∧ ¬ G9 m from ⟨hG, hGm⟩)
          have HB := Lib.hid hB
          clear hP hMT hG hGm hB K5 HK4
          go_wp2_with fail
          refine HK5.out.mono ?_
          rintro e w10 ⟨rfl, d10, rfl⟩
          clear HK5
          go_wp2_with fail
          go_roundw
          case rel => exact ⟨j + 1, G9, by omega, by go_num, C.drewN HP.out d10, HMT.out.drewN d10, HG.out.1, HG.out.2, below_drewN HB.out d10⟩
          case measure => simp [intOf]; omega
        · obtain rfl : j = r := by omega
          have hirr : ¬ (j : Int) < (j : Int) := by omega
          have U := Lib.hid (used_any hMT)
          have KC := Lib.hid (show Calls Try.prog 23 #[.pointer (some ⟨m, 0, none⟩)] wr fun e w' => e = .returned (.int .i64 0) ∧ wr = w' from mcode_any hMT)
          obtain ⟨zz, hzz⟩ : ∃ zz : Int, zz = (memTel n j).mem := ⟨_, rfl⟩
          have HU := Lib.hid (show Calls Try.prog 22 #[.pointer (some ⟨m, 0, none⟩)] wr fun e w' => e = .returned (.agg #[.int .i64 zz, .int .i64 n, .int .i64 0, .int .i64 0, .int .i64 0, .int .i64 0]) ∧ Below wr.heap.size wr w' by rw [hzz]; exact U.out)
          have HB := Lib.hid hB
          clear hP hMT hG hGm hB U hzz hlt
          go_wp2_with fail
          refine KC.out.mono ?_
          rintro e w5 ⟨rfl, rfl⟩
          clear KC
          go_wp2_with fail
          refine HU.out.mono ?_
          rintro e w6 ⟨rfl, hb6⟩
          have HB6 := Lib.hid (HB.out.trans (hb6.mono HB.out.size))
          clear hb6 HU
          go_wp2_with fail
          go_ret
          exact ⟨rfl, HB6.out⟩
    · obtain ⟨f1, f2⟩ := mem_over hn1 hle
      have K := C.short (n := sz) hM (Fine.new (quo_lit HM.out)) HSZ.out.1 HSZ.out.2 f1
      rw [f2] at K
      dsimp only at K
      have HK1 := Lib.hid K
      clear hM hmm hb2 f1 f2 K e1
      generalize max sz 1 = n at *
      have hgt : n > mem := by omega
      clear hn1 hn2 hle
      go_wp2_with fail
      refine HK1.out.mono ?_
      rintro e w3 ⟨rfl, hM3, hO⟩
      have hB3 : Below w.heap.size w w3 := HB2.out.trans (hO.below HB2.out.size (fun i hi => by have := HMM.out; omega))
      have U := Lib.hid (show Calls Try.prog 22 #[.pointer (some ⟨m, 0, none⟩)] w3 fun e w' => e = .returned (.agg #[.int .i64 0, .int .i64 0, .int .i64 0, .int .i64 0, .int .i64 0, .int .i64 0]) ∧ Below w3.heap.size w3 w' from used_any hM3)
      have HM3 := Lib.hid hM3
      have HB3 := Lib.hid hB3
      clear hM3 hO hB3 HK1
      go_wp2_with fail
      refine U.out.mono ?_
      rintro e w4 ⟨rfl, hb4⟩
      have KC := Lib.hid (show Calls Try.prog 23 #[.pointer (some ⟨m, 0, none⟩)] w4 fun e w' => e = .returned (.int .i64 101) ∧ w4 = w' from mcode_any (HM3.out.below hb4))
      have HB4 := Lib.hid (HB3.out.trans (hb4.mono HB3.out.size))
      clear hb4 U
      go_wp2_with fail
      refine KC.out.mono ?_
      rintro e w5 ⟨rfl, rfl⟩
      clear KC
      go_wp2_with fail
      go_ret
      exact ⟨rfl, HB4.out⟩
  · obtain ⟨sz, hsz⟩ : ∃ sz, sz = size := ⟨_, rfl⟩
    subst hsz
    have e1 : True := trivial
    have HSZ := Lib.hid (show -9223372036854775808 ≤ sz ∧ sz ≤ 1048576 by omega)
    clear hs
    go_wp2_with fail
    have hn1 : 1 ≤ max sz 1 := by omega
    have hn2 : max sz 1 ≤ 1048576 := by have := HSZ.out; omega
    refine (mnew_any ⟨mem, 0, 0, 0, 0⟩ w1).mono ?_
    rintro e w2 ⟨m, rfl, hM, hmm, hb2⟩
    have HB2 := Lib.hid (HB1.out.trans (hb2.mono HB1.out.size))
    have HMM := Lib.hid (show w.heap.size ≤ m by have := HB1.out.size; omega)
    have HML := Lib.hid hM.lt
    by_cases hle : max sz 1 ≤ mem
    · obtain ⟨f1, f2⟩ := mem_ok hn1 hle
      have K := C.new (n := sz) hM (Fine.new (quo_lit HM.out)) HSZ.out.1 HSZ.out.2 f1
      rw [f2, new_max] at K
      have HK1 := Lib.hid K
      clear hM hmm hb2 f1 f2 K e1
      generalize max sz 1 = n at *
      have hgt : ¬ n > mem := by omega
      have HN := Lib.hid (show 1 ≤ n ∧ n ≤ 1048576 ∧ n ≤ mem from ⟨hn1, hn2, hle⟩)
      clear hn1 hn2 hle
      go_wp2_with fail
      refine HK1.out.mono ?_
      rintro e w3 ⟨g, G, rfl, hP, hM3, hG, hO⟩
      have hB3 : Below w.heap.size w w3 := HB2.out.trans (hO.below HB2.out.size (fun i hi => by have := HMM.out; omega))
      have U := Lib.hid (show Calls Try.prog 22 #[.pointer (some ⟨m, 0, none⟩)] w3 fun e w' => e = .returned (.agg #[.int .i64 n, .int .i64 n, .int .i64 0, .int .i64 0, .int .i64 0, .int .i64 0]) ∧ Below w3.heap.size w3 w' from used_any hM3)
      have HP := Lib.hid hP
      have HMT := Lib.hid (show MeterAt w3 60 m (Quo.up ⟨mem, 0, 0, 0, 0⟩) (memTel n 0) from hM3)
      have HG := Lib.hid (show (∀ i, G i → w.heap.size ≤ i) ∧ ¬ G m from ⟨fun i hi => by have := hG i hi; have := HB2.out.size; omega, fun h => by have := hG m h; have := HML.out; omega⟩)
      have HB3 := Lib.hid hB3
      clear hP hM3 hG hO hB3 HK1
      go_wp2_with fail
      refine U.out.mono ?_
      rintro e w4 ⟨rfl, hb4⟩
      have HP4 := Lib.hid (C.only HP.out (Only.of_below (S := fun _ => False) hb4) (fun _ _ h => h))
      have HMT4 := Lib.hid (HMT.out.below hb4)
      have HB4 := Lib.hid (HB3.out.trans (hb4.mono HB3.out.size))
      clear hb4 U HP HMT HB3
      go_wp2_with fail
      obtain ⟨r, hr⟩ : ∃ r, r = k % 4 := ⟨_, rfl⟩
      have r1 : (k : Int).tmod 4 = (r : Int) := by rw [Int.tmod_eq_emod_of_nonneg (by omega)]; omega
      have r2 : IntKind.u8.wrap (r : Int) = (r : Int) := by simp [IntKind.wrap, IntKind.bits, IntKind.signed]; omega
      have r3 : IntKind.i64.wrap (r : Int) = (r : Int) := IntWalk.i64_in _ (by omega)
      have HR := Lib.hid (show r < 4 by omega)
      clear hr
      go_loopw [11] (fun i wr => ∃ (j : Nat) (G' : Nat → Prop), j ≤ r ∧ i = .int .i64 (j : Int) ∧ Pw wr g G' m (memWs n j) ∧ MeterAt wr 60 m (Quo.up ⟨mem, 0, 0, 0, 0⟩) (memTel n j) ∧ (∀ i, G' i → w.heap.size ≤ i) ∧ ¬ G' m ∧ Below w.heap.size w wr) (fun i _ => r - (intOf i).toNat)
      case atStart => exact ⟨0, G, Nat.zero_le _, rfl, HP4.out, HMT4.out, HG.out.1, HG.out.2, HB4.out⟩
      case round =>
        clear HP4 HMT4 HG HB4
        obtain ⟨j, G', hj, rfl, hP, hMT, hG, hGm, hB⟩ := hrel
        by_cases hlt : j < r
        · have K1 := Lib.hid (close_step C hP hMT HN.out.1 HN.out.2.1 HN.out.2.2 HM.out.2 hG hGm HMM.out hB)
          have hlt' : (j : Int) < (r : Int) := by omega
          have ej : IntKind.i64.wrap ((j : Int) + 1) = (j : Int) + 1 := IntWalk.i64_in _ (by have := HR.out; omega)
          clear hP hMT hG hGm hB
          go_wp2_with fail
          refine K1.out.mono ?_
          intro e w5 h5
          obtain ⟨rfl, G5, hP, hMT, hG, hGm, hB⟩ := h5
          have K2 := Lib.hid (show Calls Try.prog 11 #[.pointer (some ⟨g, 0, none⟩), .int .u8 5] w5 _ from put_step (b := 5) C hP hMT HN.out.1 HN.out.2.1 hG hGm hB)
          clear hP hMT hG hGm hB K1
          go_wp2_with fail
          refine K2.out.mono ?_
          rintro e w6 ⟨rfl, G6, hP, hMT, hG, hGm, hB⟩
          have U := Lib.hid (show Calls Try.prog 22 #[.pointer (some ⟨m, 0, none⟩)] w6 fun e w' => e = .returned (.agg #[.int .i64 0, .int .i64 n, .int .i64 0, .int .i64 0, .int .i64 0, .int .i64 0]) ∧ Below w6.heap.size w6 w' from used_any hMT)
          have HP := Lib.hid hP
          have HMT := Lib.hid hMT
          have HG := Lib.hid (show (∀ i, G6 i → w.heap.size ≤ i) ∧ ¬ G6 m from ⟨hG, hGm⟩)
          have HB := Lib.hid hB
          clear hP hMT hG hGm hB K2
          go_wp2_with fail
          refine U.out.mono ?_
          rintro e w7 ⟨rfl, hb7⟩
          have hP7 := C.only HP.out (Only.of_below (S := fun _ => False) hb7) (fun _ _ h => h)
          have hM7 := HMT.out.below hb7
          have hB7 := HB.out.trans (hb7.mono HB.out.size)
          have hsz := memWs_sz n (j + 1) HN.out.1
          have K3 := C.has (d := 0) hP7 (by have := HN.out; omega) (by decide) (by decide)
          rw [shut_has (memWs_shut n j)] at K3
          have HK3 := Lib.hid K3
          have HK4 := Lib.hid (fun d => copy_step C (C.drewN hP7 d) (hM7.drewN d) HN.out.1 HN.out.2.1 HG.out.1 HG.out.2 (below_drewN hB7 d))
          have HZ := Lib.hid (show (memWs n (j + 1)).sz ≤ 1048576 by have := HN.out; omega)
          clear hb7 hP7 hM7 hB7 hsz K3 U HP HMT HG HB
          go_wp2_with fail
          refine HK3.out.mono ?_
          rintro e w8 ⟨rfl, d8, rfl⟩
          clear HK3
          go_wp2_with fail
          refine (HK4.out _).mono ?_
          rintro e w9 ⟨rfl, G9, hP, hMT, hG, hGm, hB⟩
          have K5 := C.count hP HZ.out
          rw [shut_count (memWs_shut n j)] at K5
          have HK5 := Lib.hid (show Calls Try.prog 20 #[.pointer (some ⟨g, 0, none⟩)] w9 fun x w' => x = .returned (.int .i64 0) ∧ ∃ k, w9.drewN k = w' from K5)
          have HP := Lib.hid hP
          have HMT := Lib.hid hMT
          have HG := Lib.hid (show (∀ i, G9 i → w.heap.size ≤ i) ∧ ¬ G9 m from ⟨hG, hGm⟩)
          have HB := Lib.hid hB
          clear hP hMT hG hGm hB K5 HK4
          go_wp2_with fail
          refine HK5.out.mono ?_
          rintro e w10 ⟨rfl, d10, rfl⟩
          clear HK5
          go_wp2_with fail
          go_roundw
          case rel => exact ⟨j + 1, G9, by omega, by go_num, C.drewN HP.out d10, HMT.out.drewN d10, HG.out.1, HG.out.2, below_drewN HB.out d10⟩
          case measure => simp [intOf]; omega
        · obtain rfl : j = r := by omega
          have hirr : ¬ (j : Int) < (j : Int) := by omega
          have U := Lib.hid (used_any hMT)
          have KC := Lib.hid (show Calls Try.prog 23 #[.pointer (some ⟨m, 0, none⟩)] wr fun e w' => e = .returned (.int .i64 0) ∧ wr = w' from mcode_any hMT)
          obtain ⟨zz, hzz⟩ : ∃ zz : Int, zz = (memTel n j).mem := ⟨_, rfl⟩
          have HU := Lib.hid (show Calls Try.prog 22 #[.pointer (some ⟨m, 0, none⟩)] wr fun e w' => e = .returned (.agg #[.int .i64 zz, .int .i64 n, .int .i64 0, .int .i64 0, .int .i64 0, .int .i64 0]) ∧ Below wr.heap.size wr w' by rw [hzz]; exact U.out)
          have HB := Lib.hid hB
          clear hP hMT hG hGm hB U hzz hlt
          go_wp2_with fail
          refine KC.out.mono ?_
          rintro e w5 ⟨rfl, rfl⟩
          clear KC
          go_wp2_with fail
          refine HU.out.mono ?_
          rintro e w6 ⟨rfl, hb6⟩
          have HB6 := Lib.hid (HB.out.trans (hb6.mono HB.out.size))
          clear hb6 HU
          go_wp2_with fail
          go_ret
          exact ⟨rfl, HB6.out⟩
    · obtain ⟨f1, f2⟩ := mem_over hn1 hle
      have K := C.short (n := sz) hM (Fine.new (quo_lit HM.out)) HSZ.out.1 HSZ.out.2 f1
      rw [f2] at K
      dsimp only at K
      have HK1 := Lib.hid K
      clear hM hmm hb2 f1 f2 K e1
      generalize max sz 1 = n at *
      have hgt : n > mem := by omega
      clear hn1 hn2 hle
      go_wp2_with fail
      refine HK1.out.mono ?_
      rintro e w3 ⟨rfl, hM3, hO⟩
      have hB3 : Below w.heap.size w w3 := HB2.out.trans (hO.below HB2.out.size (fun i hi => by have := HMM.out; omega))
      have U := Lib.hid (show Calls Try.prog 22 #[.pointer (some ⟨m, 0, none⟩)] w3 fun e w' => e = .returned (.agg #[.int .i64 0, .int .i64 0, .int .i64 0, .int .i64 0, .int .i64 0, .int .i64 0]) ∧ Below w3.heap.size w3 w' from used_any hM3)
      have HM3 := Lib.hid hM3
      have HB3 := Lib.hid hB3
      clear hM3 hO hB3 HK1
      go_wp2_with fail
      refine U.out.mono ?_
      rintro e w4 ⟨rfl, hb4⟩
      have KC := Lib.hid (show Calls Try.prog 23 #[.pointer (some ⟨m, 0, none⟩)] w4 fun e w' => e = .returned (.int .i64 101) ∧ w4 = w' from mcode_any (HM3.out.below hb4))
      have HB4 := Lib.hid (HB3.out.trans (hb4.mono HB3.out.size))
      clear hb4 U
      go_wp2_with fail
      refine KC.out.mono ?_
      rintro e w5 ⟨rfl, rfl⟩
      clear KC
      go_wp2_with fail
      go_ret
      exact ⟨rfl, HB4.out⟩
end Go.Proofs.Ytnokbibkjhhcoaa
