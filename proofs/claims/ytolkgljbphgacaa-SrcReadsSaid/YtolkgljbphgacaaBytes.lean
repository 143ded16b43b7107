/-
  The reference's comparisons of bytes and of flags.
-/
import Derived.Test.YtolkgljbphgacaaNew
import Derived.Test.YtolkgljbphgacaaArith
namespace Go.Proofs.Ytolkgljbphgacaa
open Go.RowKit

theorem bv_inj {a b : List UInt8} (h : bv a = bv b) : a = b := by
  induction a generalizing b with
  | nil => cases b with
    | nil => rfl
    | cons y s => simp [bv] at h
  | cons x r ih => cases b with
    | nil => simp [bv] at h
    | cons y s =>
      simp only [bv, List.map_cons, List.cons.injEq] at h
      obtain ⟨h1, h2⟩ := h
      injection h1 with _ h1
      have hx : x = y := UInt8.toNat_inj.1 (by omega)
      rw [hx, ih (by simpa [bv] using h2)]

set_option maxHeartbeats 400000 in
/-- Bytes: whether they are the same bytes. -/
theorem bytes_any {A B : Option Addr} {n m c d : Nat} {xs ys : List UInt8} {w : World} (hA : Sl w A n (bv xs)) (hB : Sl w B m (bv ys)) (hn : n ≤ 1000000000) (hm : m ≤ 1000000000) :
    Calls Try.prog 18 #[.slice A n c, .slice B m d] w fun e w' => e = .returned (.bool (decide (xs = ys))) ∧ ∃ d, w.drewN d = w' := by
  have hxl : xs.length = n := by rw [← hA.1, bv_length]
  have hyl : ys.length = m := by rw [← hB.1, bv_length]
  by_cases hne : n = m
  · subst hne
    have HX := Lib.hid hxl
    have HY := Lib.hid hyl
    clear hxl hyl
    go_enter Try.func18, Try.ntmps18
    go_wp2
    go_loopw [5] (fun i wr => ∃ k e : Nat, k ≤ n ∧ i = .int .i64 k ∧ xs.take k = ys.take k ∧ w.drewN e = wr) (fun i _ => n - (intOf i).toNat)
    case atStart => exact ⟨0, 0, Nat.zero_le _, rfl, rfl, rfl⟩
    case round =>
      obtain ⟨k, e, hk, rfl, heq, hw⟩ := hrel
      have HW := Lib.hid hw
      have HE := Lib.hid heq
      replace hA : Sl wr A n (bv xs) := hw ▸ hA.drewN e
      replace hB : Sl wr B n (bv ys) := hw ▸ hB.drewN e
      clear hw heq
      by_cases hlt : k < n
      · obtain ⟨b, o, rfl, _, hc⟩ := hA.2 (by omega)
        obtain ⟨b', o', rfl, _, hc'⟩ := hB.2 (by omega)
        have hx : wr.cell? ⟨b, o + k, none⟩ = some (.int .u8 ((xs.getD k 0).toNat : Int)) := by rw [hc k hlt, bv_get _ _ (by have := HX.out; omega)]
        have hy : wr.cell? ⟨b', o' + k, none⟩ = some (.int .u8 ((ys.getD k 0).toNat : Int)) := by rw [hc' k hlt, bv_get _ _ (by have := HY.out; omega)]
        have HXS := Lib.hid (take_snoc xs k (by have := HX.out; omega) 0)
        have HYS := Lib.hid (take_snoc ys k (by have := HY.out; omega) 0)
        have HN : Hid (xs.getD k 0 ≠ ys.getD k 0 → xs ≠ ys) := (fun h e => h (by rw [e]) : xs.getD k 0 ≠ ys.getD k 0 → xs ≠ ys)
        generalize xs.getD k 0 = x at hx HXS HN
        generalize ys.getD k 0 = y at hy HYS HN
        clear hc hc' hA hB
        go_wp2
        go_quiet (fail)
        go_wp2
        · rename_i h
          go_ret
          refine ⟨ret_bool ?_, e + nq, by rw [← HW.out, World.drewN_drewN]⟩
          symm
          rw [decide_eq_false_iff_not]
          refine HN.out (fun e => ?_)
          subst e
          simp at h
        · rename_i h
          go_roundw
          case rel =>
            refine ⟨k + 1, e + nq, by omega, by go_num, ?_, by rw [← HW.out, World.drewN_drewN]⟩
            have hxy : x = y := UInt8.toNat_inj.1 (by have h' : (x.toNat : Int) = (y.toNat : Int) := by simpa using h
                                                      omega)
            rw [HXS.out, HYS.out, HE.out, hxy]
          case measure => simp [intOf]; omega
      · have : k = n := by omega
        subst this
        clear hA hB
        go_wp2
        go_ret
        refine ⟨ret_bool ?_, e, HW.out⟩
        symm
        rw [decide_eq_true_iff]
        have := HE.out
        rwa [List.take_of_length_le (Nat.le_of_eq HX.out), List.take_of_length_le (Nat.le_of_eq HY.out)] at this
  · have hd : ((n : Int) == (m : Int)) = false := by simp; omega
    have HX := Lib.hid hxl
    have HY := Lib.hid hyl
    clear hxl hyl
    go_enter Try.func18, Try.ntmps18
    go_wp2
    go_ret
    refine ⟨ret_bool ?_, 0, rfl⟩
    symm
    rw [decide_eq_false_iff_not]
    intro e
    apply hne
    rw [← HX.out, ← HY.out, e]
set_option maxHeartbeats 400000 in
/-- Flags: whether they are the same flags. -/
theorem flags_any {A B : Option Addr} {n m c d : Nat} {xs ys : List Bool} {w : World} (hA : Sl w A n (fv xs)) (hB : Sl w B m (fv ys)) (hn : n ≤ 1000000000) (hm : m ≤ 1000000000) :
    Calls Try.prog 20 #[.slice A n c, .slice B m d] w fun e w' => e = .returned (.bool (decide (xs = ys))) ∧ ∃ d, w.drewN d = w' := by
  have hxl : xs.length = n := by rw [← hA.1, fv_length]
  have hyl : ys.length = m := by rw [← hB.1, fv_length]
  by_cases hne : n = m
  · subst hne
    have HX := Lib.hid hxl
    have HY := Lib.hid hyl
    clear hxl hyl
    go_enter Try.func20, Try.ntmps20
    go_wp2
    go_loopw [5] (fun i wr => ∃ k e : Nat, k ≤ n ∧ i = .int .i64 k ∧ xs.take k = ys.take k ∧ w.drewN e = wr) (fun i _ => n - (intOf i).toNat)
    case atStart => exact ⟨0, 0, Nat.zero_le _, rfl, rfl, rfl⟩
    case round =>
      obtain ⟨k, e, hk, rfl, heq, hw⟩ := hrel
      have HW := Lib.hid hw
      have HE := Lib.hid heq
      replace hA : Sl wr A n (fv xs) := hw ▸ hA.drewN e
      replace hB : Sl wr B n (fv ys) := hw ▸ hB.drewN e
      clear hw heq
      by_cases hlt : k < n
      · obtain ⟨b, o, rfl, _, hc⟩ := hA.2 (by omega)
        obtain ⟨b', o', rfl, _, hc'⟩ := hB.2 (by omega)
        have hx : wr.cell? ⟨b, o + k, none⟩ = some (.bool (xs.getD k false)) := by rw [hc k hlt, fv_get _ _ (by have := HX.out; omega)]
        have hy : wr.cell? ⟨b', o' + k, none⟩ = some (.bool (ys.getD k false)) := by rw [hc' k hlt, fv_get _ _ (by have := HY.out; omega)]
        have HXS := Lib.hid (take_snoc xs k (by have := HX.out; omega) false)
        have HYS := Lib.hid (take_snoc ys k (by have := HY.out; omega) false)
        have HN : Hid (xs.getD k false ≠ ys.getD k false → xs ≠ ys) := (fun h e => h (by rw [e]) : xs.getD k false ≠ ys.getD k false → xs ≠ ys)
        generalize xs.getD k false = x at hx HXS HN
        generalize ys.getD k false = y at hy HYS HN
        clear hc hc' hA hB
        go_wp2
        go_quiet (fail)
        go_wp2
        · rename_i h
          go_ret
          refine ⟨ret_bool ?_, e + nq, by rw [← HW.out, World.drewN_drewN]⟩
          symm
          rw [decide_eq_false_iff_not]
          refine HN.out (fun e => ?_)
          subst e
          simp at h
        · rename_i h
          go_roundw
          case rel =>
            refine ⟨k + 1, e + nq, by omega, by go_num, ?_, by rw [← HW.out, World.drewN_drewN]⟩
            have hxy : x = y := by simpa using h
            rw [HXS.out, HYS.out, HE.out, hxy]
          case measure => simp [intOf]; omega
      · have : k = n := by omega
        subst this
        clear hA hB
        go_wp2
        go_ret
        refine ⟨ret_bool ?_, e, HW.out⟩
        symm
        rw [decide_eq_true_iff]
        have := HE.out
        rwa [List.take_of_length_le (Nat.le_of_eq HX.out), List.take_of_length_le (Nat.le_of_eq HY.out)] at this
  · have hd : ((n : Int) == (m : Int)) = false := by simp; omega
    have HX := Lib.hid hxl
    have HY := Lib.hid hyl
    clear hxl hyl
    go_enter Try.func20, Try.ntmps20
    go_wp2
    go_ret
    refine ⟨ret_bool ?_, 0, rfl⟩
    symm
    rw [decide_eq_false_iff_not]
    intro e
    apply hne
    rw [← HX.out, ← HY.out, e]
end Go.Proofs.Ytolkgljbphgacaa
