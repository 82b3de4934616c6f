/- R7 R8a Y1, one behind the other. -/
import Derived.Test.YtmeffeigamaipaaDoorM31
import Derived.Handy
import Derived.Laws.OwnMore
import Derived.Deep.RegionLaw
import Derived.Test.YtmeffeigamaipaaDoorM34
import Derived.Test.YtmeffeigamaipaaDoorShelf
import Derived.Test.YtmeffeigamaipaaDoorM26
set_option linter.unusedVariables false
set_option linter.unusedSimpArgs false
/- A run: places that are unset, and the spans of a match. -/
namespace Go.Proofs.YtmeffeigamaipaaDoor.G
open Go.RowKit

def unsetS : List Int := [-1, -1, -1, -1, -1, -1, -1, -1, -1, -1]
set_option maxHeartbeats 2000000 in
set_option maxRecDepth 100000 in
theorem unset_any (w : World) : Calls Tryd.prog 24 #[] w fun e w' => e = .returned (.agg (ints unsetS).toArray) ∧ Ex [] w w' := by
  go_enter Tryd.func24, Tryd.ntmps24
  go_wp2_with fail
  go_rounds 11
  refine bodyPost_ret (v := .agg (ints unsetS).toArray) (by simp [results, Tryd.results24, go_sem, unsetS, ints]) rfl ⟨rfl, ?_⟩
  repeat (first | exact Ex.refl _ _ | refine Ex.setCell ?_ (Or.inr (by simp)) _ | refine Ex.alloc ?_ _)

def spanL (l : List (Int × Int)) : List Value := l.flatMap fun y => [.int .i64 y.1, .int .i64 y.2]
theorem spanL_snoc (l : List (Int × Int)) (y : Int × Int) : spanL (l ++ [y]) = spanL l ++ [.int .i64 y.1, .int .i64 y.2] := by simp [spanL]
def spanAt (sl : List Int) (k : Nat) : Int × Int := (sl.getD (2 * k) 0, sl.getD (2 * k + 1) 0)
def spansM (len : Int) (sl : List Int) (ng : Nat) : List (Int × Int) := (0, len) :: (List.range ng).map (spanAt sl)
theorem spansM_succ (len : Int) (sl : List Int) (k : Nat) : spansM len sl (k + 1) = spansM len sl k ++ [spanAt sl k] := by simp [spansM, List.range_succ]
theorem spansM_len (len : Int) (sl : List Int) (k : Nat) : (spansM len sl k).length = k + 1 := by simp [spansM]
theorem infoSpan : (Tryd.prog.info? 41).map (fun i => (i.zero, i.size, i.bytes)) = some (some (.agg #[.int .i64 0, .int .i64 0]), 2, 16) := by kernel_rfl

set_option maxHeartbeats 4000000 in
set_option maxRecDepth 100000 in
theorem spans_any (q : Nat) (v0 v1 v2 v4 : Value) (ng : Nat) (hng : ng ≤ 5) (sl : List Int) (hsl : sl.length = 10) (len : Int) (w : World) (hq : BK w q (.cells #[v0, v1, v2, .int .i64 (ng : Int), v4] 74 (0, 0))) :
    Calls Tryd.prog 28 #[.pointer (some ⟨q, 0, none⟩), .agg (ints sl).toArray, .int .i64 len] w fun e w' => ∃ v, e = .returned v ∧ w'.ownsRow w.heap.size 41 2 v (ng + 1) (spanL (spansM len sl ng)) ∧ Ex [] w w' := by
  obtain ⟨t0, hi, hz0, hz1, hz2⟩ := info_parts infoSpan
  obtain ⟨hcq, hfq⟩ := hq.all
  have hql := hq.lt
  have h90 := Tryd.underlying79
  clear hq
  go_enter Tryd.func28, Tryd.ntmps28
  go_wp2_with fail
  go_loopg [7, 16] ng (fun gk s7 i16 wr => ∃ (j : Nat), j + gk = ng ∧ i16 = .int .i64 j ∧ wr.ownsRow (w.heap.size + 1) 41 2 s7 (j + 1) (spanL (spansM len sl j)) ∧ BK wr w.heap.size (.cells (ints sl).toArray 79 (0, 0)) ∧ Ex [] w wr)
  case atStart =>
    refine ⟨0, by omega, rfl, ?_, ?_, ((Ex.refl _ _).alloc _).alloc _⟩
    · have h1 := World.ownsRow_lit (base := w.heap.size + 1) (e := 41) (size := 2) (w.alloc (Obj.cells (ints sl).toArray 79)) #[.int .i64 0, .int .i64 len] 1 (by simp) (by decide) (by simp)
      simpa [spanL, spansM] using h1
    · exact (BK.new _ _).alloc _
  case round =>
    obtain ⟨j, hj, rfl, hown, hbs, hx⟩ := hrel
    have HO := hide hown
    have HB := hide hbs
    have HX := hide hx
    cases gk with
    | zero =>
      obtain rfl : j = ng := by omega
      clear hown hbs hx hj
      go_wp2_with fail
      go_ret
      exact ⟨_, rfl, own_lower HO.out (by omega), HX.out⟩
    | succ g =>
      obtain ⟨p, c, rfl⟩ := own_slice hown
      have hjn : (j : Int) < (ng : Int) := by omega
      have hj5 : j < 5 := by omega
      obtain ⟨i2, hi2⟩ : ∃ i2, i2 = 2 * j := ⟨_, rfl⟩
      have e1 : IntKind.i64.wrap (2 * (j : Int)) = (i2 : Int) := by
        have : j = 0 ∨ j = 1 ∨ j = 2 ∨ j = 3 ∨ j = 4 := by omega
        rcases this with rfl | rfl | rfl | rfl | rfl <;> subst hi2 <;> rfl
      obtain ⟨i3, hi3⟩ : ∃ i3, i3 = 2 * j + 1 := ⟨_, rfl⟩
      have e2 : IntKind.i64.wrap ((i2 : Int) + 1) = (i3 : Int) := by
        have : j = 0 ∨ j = 1 ∨ j = 2 ∨ j = 3 ∨ j = 4 := by omega
        rcases this with rfl | rfl | rfl | rfl | rfl <;> subst hi2 <;> subst hi3 <;> rfl
      have e4 : (i3 : Int) < 10 := by omega
      have e3 : (i2 : Int) < 10 := by omega
      obtain ⟨hcb, hfb⟩ := hbs.all
      obtain ⟨x, hx0⟩ : ∃ x, x = sl.getD (2 * j) 0 := ⟨_, rfl⟩
      obtain ⟨y, hy0⟩ : ∃ y, y = sl.getD (2 * j + 1) 0 := ⟨_, rfl⟩
      have k0 : wr.cell? ⟨w.heap.size, i2, none⟩ = some (.int .i64 x) := by
        rw [hi2, hcb, List.getElem?_toArray, ints_at, hx0, List.getD_eq_getElem?_getD, List.getElem?_eq_getElem (by omega)]; rfl
      have k1 : wr.cell? ⟨w.heap.size, i3, none⟩ = some (.int .i64 y) := by
        rw [hi3, hcb, List.getElem?_toArray, ints_at, hy0, List.getD_eq_getElem?_getD, List.getElem?_eq_getElem (by omega)]; rfl
      have hxs : spanAt sl j = (x, y) := by rw [hx0, hy0]; rfl
      have HXS := hide hxs
      have hbl := hbs.lt
      have hwl := hx.size
      clear hown hbs hx hcb hfb hx0 hy0 hxs hcq hfq hi2 hi3
      have HN : Hid (∀ i u, [Value.int .i64 x, .int .i64 y][i]? = some u → (wr.alloc (Obj.cells #[.int .i64 x, .int .i64 y] 41)).drew.cell? ((⟨wr.heap.size, 0, none⟩ : Addr).add i) = some u) := World.news_of_block (BK.drew (BK.new _ _))
      go_wp2_with fail
      go_region_law (refine step_append_lies _ rfl (.tmp 19) (.tmp 30) 36 rfl (w.heap.size + 1) 41 t0 _ 2 16 Tryd.underlying36 hi hz0 hz1 hz2 rfl (by decide) (.slice p (j + 1) c) (j + 1) (spanL (spansM len sl j)) (by simp [Act.eval, Act.put]) (World.ownsRow.drew (HO.out.alloc _)) ⟨wr.heap.size, 0, none⟩ 1 1 [.int .i64 x, .int .i64 y] (by simp [Act.eval, Act.put]) rfl HN.out (by simp [Value.oneCell']) (by decide) (by unfold maxLen; omega) (by omega) (by simp; omega) _ rfl ?_; intro g0 cap w1 hown1 hgrow hat hlt)
      all_goals
        have HB1 := hide (BK.grown (HB.out.alloc (Obj.cells #[.int .i64 x, .int .i64 y] 41)).drew hgrow (fun e => by have := own_block HO.out _ e; omega))
        have HO1 := hide hown1
        have HG1 := hide hgrow
        clear hown1 hgrow hat
        go_wp2_with fail
        go_roundg g
        case measure => omega
        case rel =>
          refine ⟨j + 1, by omega, by simp, ?_, HB1.out, ?_⟩
          · rw [spansM_succ, spanL_snoc, HXS.out]
            exact HO1.out
          · refine Ex.grown ((HX.out.alloc _).drew) HG1.out (fun k hk => Or.inr ?_)
            have := own_block HO.out k hk
            omega
end Go.Proofs.YtmeffeigamaipaaDoor.G

/- Runes of a string; the mirror of a match. -/
namespace Go.Proofs.YtmeffeigamaipaaDoor.G
open Go.Lib

def rsz (s : ByteArray) (a : Nat) : Nat := (Lib.decodeGo (s.extract a s.size)).2
def rune (s : ByteArray) (a : Nat) : Nat := (Lib.decodeGo (s.extract a s.size)).1
theorem size_extract (s : ByteArray) (a e : Nat) (he : e ≤ s.size) : (s.extract a e).size = e - a := by
  rw [Lib.size_eq, Lib.extract_data, List.length_take, List.length_drop, ← Lib.size_eq]
  omega
theorem dN_ge (n b0 b1 b2 b3 : Nat) : 1 ≤ (decodeN n b0 b1 b2 b3).2 := by
  unfold decodeN
  repeat' split
  all_goals simp
theorem dN_le (n b0 b1 b2 b3 : Nat) (hn : 1 ≤ n) : (decodeN n b0 b1 b2 b3).2 ≤ n := by
  unfold decodeN
  repeat' split
  all_goals (simp only; omega)
theorem rsz_dec (s : ByteArray) (a : Nat) (h : a < s.size) :
    rsz s a = (decodeN (s.size - a) ((s.extract a s.size).get! 0).toNat ((s.extract a s.size).get! 1).toNat ((s.extract a s.size).get! 2).toNat ((s.extract a s.size).get! 3).toNat).2 := by
  have hz := size_extract s a s.size (Nat.le_refl _)
  unfold rsz decodeGo
  rw [if_neg (by omega), decode_at, hz]
  simp
theorem rs_all (s : ByteArray) : ∀ a, a < s.size → 1 ≤ rsz s a ∧ a + rsz s a ≤ s.size := by
  intro a h
  rw [rsz_dec s a h]
  exact ⟨dN_ge _ _ _ _ _, by have := dN_le (s.size - a) ((s.extract a s.size).get! 0).toNat ((s.extract a s.size).get! 1).toNat ((s.extract a s.size).get! 2).toNat ((s.extract a s.size).get! 3).toNat (by omega); omega⟩

def runM (code : List Ins) (s : ByteArray) : Nat → Nat → List Th × List Int → Option (List Int)
  | 0, _, st => acceptM code st.1
  | f + 1, a, st => if a < s.size then
      if (stepL code (rune s a) ((a + rsz s a : Nat) : Int) st.1 ([], st.2)).1.length = 0 then none else runM code s f (a + rsz s a) (stepL code (rune s a) ((a + rsz s a : Nat) : Int) st.1 ([], st.2))
    else acceptM code st.1
def matchM (code : List Ins) (s : ByteArray) : Option (List Int) := runM code s s.size 0 (followM unsetS 0 (wys (waysM code (0, 0))) ([], List.replicate code.length (-1)))
theorem runM_end (code : List Ins) (s : ByteArray) (f : Nat) (st : List Th × List Int) : runM code s f s.size st = acceptM code st.1 := by
  cases f with
  | zero => rfl
  | succ f => simp [runM]
theorem accept_ten (code : List Ins) (n : Nat) : ∀ ts : List Th, TOK n ts → ∀ sl, acceptM code ts = some sl → sl.length = 10
  | [], _, sl, h => by cases h
  | t :: ts, ht, sl, h => by
    unfold acceptM at h
    split at h
    · cases h; exact (ht t (List.mem_cons_self ..)).1
    · exact accept_ten code n ts (fun y hy => ht y (List.mem_cons_of_mem _ hy)) sl h

theorem tabs_eb {B : Nat} {w w' : World} (h : Lib.Utf8Tabs 1 2 w) (hx : EB B [] w w') (hB : 2 < B) : Lib.Utf8Tabs 1 2 w' :=
  ⟨fun c hc => (hx.cell (by omega)).trans (h.1 c hc), fun i hi => ⟨(hx.cell (by omega)).trans (h.2 i hi).1, (hx.cell (by omega)).trans (h.2 i hi).2⟩⟩
theorem tabs_ex {w w' : World} (h : Lib.Utf8Tabs 1 2 w) (hx : Ex [] w w') : Lib.Utf8Tabs 1 2 w' := tabs_eb h (EB.ofEx hx (Nat.le_refl _)) (World.block_lt_of_cell? w _ (h.2 0 (by omega)).1)
theorem tabs_lt {w : World} (h : Lib.Utf8Tabs 1 2 w) : 2 < w.heap.size := World.block_lt_of_cell? w _ (h.2 0 (by omega)).1
end Go.Proofs.YtmeffeigamaipaaDoor.G

/- What a group stands for lies within the text, and ends no earlier than it begins. -/
namespace Go.Proofs.YtmeffeigamaipaaDoor.G

theorem markN_at (b pl : Int) (sl : List Int) : ∀ (n i : Nat), i < sl.length → (markN b pl n sl)[i]? = if i < n ∧ bitAt b i = true then some pl else sl[i]?
  | 0, i, hi => by simp [markN]
  | n + 1, i, hi => by
    have ih := markN_at b pl sl n i hi
    unfold markN
    by_cases hb : bitAt b n = true
    · rw [if_pos hb]
      by_cases hin : n = i
      · subst hin
        rw [List.getElem?_set_self (by rw [markN_len]; exact hi), if_pos ⟨by omega, hb⟩]
      · rw [List.getElem?_set_ne hin, ih]
        by_cases h : i < n ∧ bitAt b i = true
        · rw [if_pos h, if_pos ⟨by omega, h.2⟩]
        · rw [if_neg h, if_neg (fun e => h ⟨by omega, e.2⟩)]
    · rw [if_neg hb, ih]
      by_cases h : i < n ∧ bitAt b i = true
      · rw [if_pos h, if_pos ⟨by omega, h.2⟩]
      · rw [if_neg h, if_neg (fun e => h ⟨by
          have : i ≠ n := fun e2 => hb (e2 ▸ e.2)
          omega, e.2⟩)]
end Go.Proofs.YtmeffeigamaipaaDoor.G
