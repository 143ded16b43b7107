/-
  The filter of machine words over a feed: its cells, its drawing.
-/
import Derived.Test.YtcolnmjginpalaaDoorBjThru
import Derived.Test.YtcolnmjginpalaaDoorSrcFeed
import Derived.Laws.IdiomCopy
namespace Go.Proofs.YtcolnmjginpalaaDoor
set_option linter.unusedVariables false
set_option linter.unusedSimpArgs false
open Go.RowKit

def fdV (f : Nat) : Value := .iface 27 (.pointer (some ⟨f, 0, none⟩))
/-- the filter's cells: source, walk, bytes that wait, how many, how many of them may be told -/
structure FlC (cs : Array Value) (v0 : Value) (p : Nat) (l m : Int) (wt : List UInt8) (past : Nat) : Prop where
  size : cs.size = 12
  c0 : cs[0]? = some v0
  c1 : cs[1]? = some (.bool false)
  c2 : cs[2]? = some (.int .i64 (p : Int))
  c3 : cs[3]? = some (.int .i64 l)
  c4 : cs[4]? = some (.int .i64 m)
  wait : ∀ j, j < wt.length → cs[5 + j]? = some (.int .u8 ((wt.getD j 0).toNat : Int))
  c10 : cs[10]? = some (.int .i64 (wt.length : Int))
  c11 : cs[11]? = some (.int .i64 (past : Int))
  h5 : wt.length ≤ 5
/-- the filter at block g over the feed at block f, of the bytes b: i bytes are gone past, told ones are told -/
structure BF (w : World) (g f lo : Nat) (b : List UInt8) (told i : Nat) (l m : Int) (a : Nat) (v0 : Value) (cs : Array Value) (wt dn : List UInt8) : Prop where
  blk : Blk w g 49 cs
  c : FlC cs v0 i l m wt (i - told)
  ti : told ≤ i
  ag : Aged i l m a
  dl : dn.length = i
  is : dn ++ gN false i a (b.drop i) = gN false 0 0 b
  wt_is : ∀ j, j < wt.length → wt.getD j 0 = if told + j < i then dn.getD (told + j) 0 else b.getD (told + j) 0
  ile : i ≤ told + wt.length
  src : v0 = fdV f ∨ (v0 = .nilIface ∧ told + wt.length = b.length)
  feed : Feed w f lo b (told + wt.length)
  fg : f < g
  two : 2 ≤ lo
  lof : lo ≤ f
  tabs : Tabs w
theorem feed_next (a : Addr) (w : World) : (method 176 27 (.pointer (some a)) "Next").run Tryd.prog w = .ok (52, .pointer (some a)) w := by kernel_rfl
theorem feed_ne (a : Addr) (w : World) : (binOp .neq 46 (.iface 27 (.pointer (some a))) .nilIface).run Tryd.prog w = .ok (.bool true) w := by kernel_rfl
theorem feed_nil (w : World) : (binOp .neq 46 .nilIface .nilIface).run Tryd.prog w = .ok (.bool false) w := by kernel_rfl
def own2 (f g : Nat) : Nat → Prop := fun i => i = f ∨ i = g
def heldOf (w : World) (g : Nat) : Nat := match w.cell? ⟨g, 10, none⟩ with
  | some v => (intOf v).toNat
  | none => 0
section
variable {w : World} {g f lo told i a : Nat} {b wt dn : List UInt8} {l m : Int} {v0 : Value} {cs : Array Value}
theorem BF.held (h : BF w g f lo b told i l m a v0 cs wt dn) : heldOf w g = wt.length := by
  unfold heldOf
  rw [h.blk.cell, h.c.c10]
  rfl
theorem BF.le (h : BF w g f lo b told i l m a v0 cs wt dn) : told + wt.length ≤ b.length := h.feed.le
/-- a byte more -/
theorem BF.more {w' : World} (h : BF w g f lo b i i l m a v0 cs wt dn) (hF : Feed w' f lo b (i + (wt ++ [b.getD (i + wt.length) 0]).length)) (hT : Tabs w') (hv : v0 = fdV f) (h5 : wt.length < 5)
    (hB : Blk w' g 49 ((cs.setIfInBounds (5 + wt.length) (.int .u8 ((b.getD (i + wt.length) 0).toNat : Int))).setIfInBounds 10 (.int .i64 ((wt.length : Int) + 1)))) :
    BF w' g f lo b i i l m a v0 ((cs.setIfInBounds (5 + wt.length) (.int .u8 ((b.getD (i + wt.length) 0).toNat : Int))).setIfInBounds 10 (.int .i64 ((wt.length : Int) + 1))) (wt ++ [b.getD (i + wt.length) 0]) dn := by
  have hz := h.c.size
  have hg : ∀ j, j ≠ 10 → j ≠ 5 + wt.length → ((cs.setIfInBounds (5 + wt.length) (Value.int .u8 ((b.getD (i + wt.length) 0).toNat : Int))).setIfInBounds 10 (.int .i64 ((wt.length : Int) + 1)))[j]? = cs[j]? := fun j h1 h2 => by
    rw [Array.getElem?_setIfInBounds, if_neg (by omega), Array.getElem?_setIfInBounds, if_neg (by omega)]
  refine ⟨hB, ⟨by rw [Array.size_setIfInBounds, Array.size_setIfInBounds]; exact hz, (hg 0 (by decide) (by omega)).trans h.c.c0, (hg 1 (by decide) (by omega)).trans h.c.c1, (hg 2 (by decide) (by omega)).trans h.c.c2, (hg 3 (by decide) (by omega)).trans h.c.c3, (hg 4 (by decide) (by omega)).trans h.c.c4, fun j hj => ?_, ?_, (hg 11 (by decide) (by omega)).trans h.c.c11, by rw [List.length_append]; exact h5⟩, h.ti, h.ag, h.dl, h.is, fun j hj => ?_, by rw [List.length_append]; have := h.ile; omega, .inl hv, hF, h.fg, h.two, h.lof, hT⟩
  · rw [List.length_append] at hj
    have h1 : ([b.getD (i + wt.length) 0] : List UInt8).length = 1 := rfl
    by_cases e : j = wt.length
    · subst e
      rw [Array.getElem?_setIfInBounds, if_neg (by omega), Array.getElem?_setIfInBounds, if_pos rfl, if_pos (by omega)]
      rw [List.getD_eq_getElem?_getD (l := wt ++ _), List.getElem?_append_right (Nat.le_refl _), Nat.sub_self]
      rfl
    · rw [hg _ (by omega) (by omega), h.c.wait j (by omega), List.getD_eq_getElem?_getD, List.getD_eq_getElem?_getD, List.getElem?_append_left (by omega)]
  · rw [Array.getElem?_setIfInBounds, if_pos rfl, if_pos (by rw [Array.size_setIfInBounds]; omega), List.length_append]
    rfl
  · rw [List.length_append] at hj
    have h1 : ([b.getD (i + wt.length) 0] : List UInt8).length = 1 := rfl
    by_cases e : j = wt.length
    · subst e
      rw [if_neg (by omega), List.getD_eq_getElem?_getD (l := wt ++ _), List.getElem?_append_right (Nat.le_refl _), Nat.sub_self]
      rfl
    · rw [getD_app (by omega)]
      exact h.wt_is j (by omega)
/-- there is none -/
theorem BF.none_ {w' : World} (h : BF w g f lo b told i l m a v0 cs wt dn) (hT : Tabs w') (hF : Feed w' f lo b (told + wt.length)) (he : told + wt.length = b.length) (hB : Blk w' g 49 (cs.setIfInBounds 0 .nilIface)) :
    BF w' g f lo b told i l m a .nilIface (cs.setIfInBounds 0 .nilIface) wt dn := by
  have hz := h.c.size
  have hg : ∀ j, j ≠ 0 → (cs.setIfInBounds 0 Value.nilIface)[j]? = cs[j]? := fun j h1 => by
    rw [Array.getElem?_setIfInBounds, if_neg (by omega)]
  exact ⟨hB, ⟨by rw [Array.size_setIfInBounds]; exact hz, by rw [Array.getElem?_setIfInBounds, if_pos rfl, if_pos (by omega)], (hg 1 (by decide)).trans h.c.c1, (hg 2 (by decide)).trans h.c.c2, (hg 3 (by decide)).trans h.c.c3, (hg 4 (by decide)).trans h.c.c4, fun j hj => (hg _ (by omega)).trans (h.c.wait j hj), (hg 10 (by decide)).trans h.c.c10, (hg 11 (by decide)).trans h.c.c11, h.c.h5⟩, h.ti, h.ag, h.dl, h.is, h.wt_is, h.ile, .inr ⟨rfl, he⟩, hF, h.fg, h.two, h.lof, hT⟩
end
def DrawPost (w : World) (n g f lo : Nat) (b : List UInt8) (i : Nat) (l m : Int) (a : Nat) (wt dn : List UInt8) (w' : World) : Prop :=
  ∃ v0' cs' wt', BF w' g f lo b i i l m a v0' cs' wt' dn ∧ (n ≤ wt'.length ∨ v0' = .nilIface) ∧ wt.length ≤ wt'.length ∧ Only (own2 f g) w w'
section
variable {w : World} {g f lo told i a : Nat} {b wt dn : List UInt8} {l m : Int} {v0 : Value} {cs : Array Value}
set_option maxRecDepth 100000 in
set_option maxHeartbeats 4000000 in
theorem draw_any {n : Nat} (h : BF w g f lo b i i l m a v0 cs wt dn) (hn : n ≤ 5) :
    Calls Tryd.prog 27 #[.pointer (some ⟨g, 0, none⟩), .int .i64 (n : Int)] w fun e w' => e = .returned (.tuple #[]) ∧ DrawPost w n g f lo b i l m a wt dn w' := by
  have hm := feed_next
  have hne := feed_ne
  have hnl := feed_nil
  have H := Lib.hid h
  have HN := Lib.hid hn
  clear h hn
  go_enter Tryd.func27, Tryd.ntmps27
  go_wp2_with fail
  go_loopw [] (fun wr => ∃ v0' cs' wt', BF wr g f lo b i i l m a v0' cs' wt' dn ∧ wt.length ≤ wt'.length ∧ Only (own2 f g) w wr) (fun wr => n - heldOf wr g)
  case atStart => exact ⟨v0, cs, wt, H.out, Nat.le_refl _, Only.refl _ _⟩
  case round =>
    clear H
    obtain ⟨v0', cs', wt', hB, hle, hO⟩ := hrel
    have k10 : wr.cell? ⟨g, 10, none⟩ = some (.int .i64 (wt'.length : Int)) := (hB.blk.cell 10).trans hB.c.c10
    have k0 : wr.cell? ⟨g, 0, none⟩ = some v0' := (hB.blk.cell 0).trans hB.c.c0
    have HB := Lib.hid hB
    have HO := Lib.hid (And.intro hle hO)
    by_cases hlt : wt'.length < n
    · have hF := hB.feed
      rcases hB.src with rfl | ⟨rfl, he⟩
      · by_cases hd : i + wt'.length < b.length
        · have K := feed_more hF hd
          obtain ⟨x, hx⟩ : ∃ x, b.getD (i + wt'.length) 0 = x := ⟨_, rfl⟩
          rw [hx] at K
          have HX := Lib.hid hx
          have K := Lib.hid K
          have i1 : (wt'.length : Int) < (n : Int) := by omega
          have HLT := Lib.hid (And.intro hlt (show wt'.length < 5 by have := HN.out; omega))
          have e1 : wrap64 ((wt'.length : Int) + 1) = (wt'.length : Int) + 1 := IntWalk.wrap64_in _ (by have := HN.out; omega)
          unfold fdV at k0
          clear hB hle hO hF hd hlt hx
          go_wp2_with fail
          refine K.out.mono ?_
          rintro e w1 ⟨rfl, hF1, hg1⟩
          have hB1 := HB.out.blk.grown hg1 (by intro h; injection h with h; have := HB.out.fg; omega)
          have HO1 := Lib.hid (HO.out.2.trans (Only.of_grown hg1 (show own2 f g f from .inl rfl)))
          have hT1 : Tabs w1 := HB.out.tabs.only (Only.of_grown (S := fun i => i = f) hg1 rfl) (by have := HB.out.two; have := HB.out.lof; omega) (by have := HB.out.two; have := HB.out.lof; omega)
          have d10 : w1.cell? ⟨g, 10, none⟩ = some (.int .i64 (wt'.length : Int)) := (hB1.cell 10).trans HB.out.c.c10
          have d5 : ∃ v, w1.cell? ⟨g, 5 + wt'.length, none⟩ = some v := by
            rw [hB1.cell]
            exact ⟨_, Array.getElem?_eq_getElem (by rw [HB.out.c.size]; have := HLT.out.2; omega)⟩
          obtain ⟨vx, d5⟩ := d5
          have f5 : w1.frozen? ⟨g, 5 + wt'.length, none⟩ = false := hB1.free _
          have f10 : w1.frozen? ⟨g, 10, none⟩ = false := hB1.free _
          have l0 : (0 : Int) ≤ (wt'.length : Int) := by omega
          have l1 : (wt'.length : Int) < 5 := by have := HLT.out.2; omega
          have HF1 := Lib.hid (And.intro hF1 (And.intro hT1 hB1))
          clear hF1 hg1 hB1 hT1 K k10 k0
          go_wp2_with fail
          go_region
          have hB2 := HF1.out.2.2.put (5 + wt'.length) (.int .u8 (x.toNat : Int))
          have hO2 : Only (own2 f g) w (w1.setCell ⟨g, 5 + wt'.length, none⟩ (.int .u8 (x.toNat : Int))) := HO1.out.setCell (.inl (.inr rfl)) _
          have hO3 : Only (fun i => i = g) w1 (w1.setCell ⟨g, 5 + wt'.length, none⟩ (.int .u8 (x.toNat : Int))) := (Only.refl (fun i => i = g) w1).setCell (.inl rfl) _
          have HBB := Lib.hid (And.intro hB2 (And.intro hO2 hO3))
          have c10 : (w1.setCell ⟨g, 5 + wt'.length, none⟩ (.int .u8 (x.toNat : Int))).cell? ⟨g, 10, none⟩ = some (.int .i64 (wt'.length : Int)) := (cell_other (addr_ne fun _ => by have := HLT.out.2; omega)).trans d10
          have f10' : (w1.setCell ⟨g, 5 + wt'.length, none⟩ (.int .u8 (x.toNat : Int))).frozen? ⟨g, 10, none⟩ = false := froz.trans f10
          clear hB2 hO2 hO3 d5 d10 f5 f10 HO1
          generalize w1.setCell ⟨g, 5 + wt'.length, none⟩ (.int .u8 (x.toNat : Int)) = w2 at *
          go_wp2_with fail
          have hO4 : Only (fun i => i = g) w1 (w2.setCell ⟨g, 10, none⟩ (.int .i64 ((wt'.length : Int) + 1))).drew := (HBB.out.2.2.setCell (.inl rfl) _).drew
          have hB4 := HB.out.more (w' := (w2.setCell ⟨g, 10, none⟩ (.int .i64 ((wt'.length : Int) + 1))).drew) (by
            have := HF1.out.1.only hO4 (fun i hi => by have := HB.out.fg; omega)
            rw [List.length_append]
            exact this) (HF1.out.2.1.only hO4 (by have := HB.out.two; have := HB.out.lof; have := HB.out.fg; omega) (by have := HB.out.two; have := HB.out.lof; have := HB.out.fg; omega)) rfl HLT.out.2 (by rw [HX.out]; exact HBB.out.1.put 10 _)
          have HB4 := Lib.hid hB4
          have HH := Lib.hid (And.intro hB4.held (HB.out.held))
          clear hO4 hB4
          go_roundw
          case rel => exact ⟨_, _, _, HB4.out, by rw [List.length_append]; have := HO.out.1; omega, (HBB.out.2.1.setCell (.inl (.inr rfl)) _).drew⟩
          case measure =>
            rw [HH.out.1, HH.out.2, List.length_append]
            have := HLT.out.1
            show n - (wt'.length + 1) < n - wt'.length
            omega
        · have he : i + wt'.length = b.length := by have := hF.le; omega
          have K := hF
          rw [he] at K
          have K := Lib.hid (feed_end K)
          have i1 : (wt'.length : Int) < (n : Int) := by omega
          have f0 : wr.frozen? ⟨g, 0, none⟩ = false := hB.blk.free _
          have HE := Lib.hid he
          unfold fdV at k0
          clear hB hle hO hF hd hlt he
          go_wp2_with fail
          refine K.out.mono ?_
          rintro e w1 ⟨rfl, d, rfl⟩
          go_wp2_with fail
          first | go_end0 | refine bodyPost_ret (results_none rfl _ _ _) rfl ?_
          have hO : Only (fun i => i = g) wr ((wr.drewN d).setCell ⟨g, 0, none⟩ .nilIface) := ((Only.refl (fun i => i = g) wr).drewN d).setCell (.inl rfl) _
          refine ⟨rfl, .nilIface, _, wt', HB.out.none_ (HB.out.tabs.only hO (by have := HB.out.two; have := HB.out.lof; have := HB.out.fg; omega) (by have := HB.out.two; have := HB.out.lof; have := HB.out.fg; omega)) (HB.out.feed.only hO (fun j hj => by have := HB.out.fg; omega)) HE.out ((HB.out.blk.drewN d).put 0 _), .inr rfl, HO.out.1, HO.out.2.trans (hO.mono fun _ h => .inr h)⟩
      · have i1 : (wt'.length : Int) < (n : Int) := by omega
        clear hB hle hO hlt he hF
        go_wp2_with fail
        first | go_end0 | refine bodyPost_ret (results_none rfl _ _ _) rfl ?_
        exact ⟨rfl, _, cs', wt', HB.out, .inr rfl, HO.out.1, HO.out.2⟩
    · have i1 : ¬ (wt'.length : Int) < (n : Int) := by omega
      have HLT := Lib.hid (show n ≤ wt'.length by omega)
      clear hB hle hO hlt
      go_wp2_with fail
      first | go_end0 | refine bodyPost_ret (results_none rfl _ _ _) rfl ?_
      exact ⟨rfl, v0', cs', wt', HB.out, .inl HLT.out, HO.out.1, HO.out.2⟩
end
end Go.Proofs.YtcolnmjginpalaaDoor
