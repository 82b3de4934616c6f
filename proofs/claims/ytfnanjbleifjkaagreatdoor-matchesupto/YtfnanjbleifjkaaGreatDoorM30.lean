import Derived.Test.YtfnanjbleifjkaaGreatDoorM29
import Derived.Test.YtfnanjbleifjkaaGreatDoorM03
import Derived.Laws.IdiomStrings
set_option linter.unusedVariables false
set_option linter.unusedSimpArgs false
set_option maxHeartbeats 4000000
set_option maxRecDepth 100000
namespace Go.Proofs.YtfnanjbleifjkaaGreatDoor.G
variable {w : World} {code : List Ins} {n pl : Nat} {sl : List Int}
open Go.RowKit
def cA : List Int := [-1, -1, -1, -1, -1, -1, -1, -1, -1, -1]
theorem tK (w : World) : Calls Tryz.prog 52 #[] w fun e w' => e = .returned (.agg (bG cA).toArray) /\ Ex [] w w' := by
 go_enter Tryz.func52, Tryz.ntmps52
 go_wp2_with fail
 go_rounds 11
 refine bodyPost_ret (v := .agg (bG cA).toArray) (by simp [results, Tryz.results52, go_sem, cA, bG]) rfl ⟨rfl, ?_⟩
 repeat (first | exact Ex.refl _ _ | refine Ex.setCell ?_ (Or.inr (by simp)) _ | refine Ex.alloc ?_ _)
def bz (l : List (Int × Int)) : List Value := l.flatMap fun y => [.int .i64 y.1, .int .i64 y.2]
theorem dL (l : List (Int × Int)) (y : Int × Int) : bz (l ++ [y]) = bz l ++ [.int .i64 y.1, .int .i64 y.2] := by simp [bz]
def oq (sl : List Int) (k : Nat) : Int × Int := (sl.getD (2 * k) 0, sl.getD (2 * k + 1) 0)
def cu (len : Int) (sl : List Int) (ng : Nat) : List (Int × Int) := (0, len) :: (List.range ng).map (oq sl)
theorem oK (len : Int) (sl : List Int) (k : Nat) : cu len sl (k + 1) = cu len sl k ++ [oq sl k] := by simp [cu, List.range_succ]
theorem qS (len : Int) (sl : List Int) (k : Nat) : (cu len sl k).length = k + 1 := by simp [cu]
theorem oN : (Tryz.prog.info? 31).map (fun i => (i.zero, i.size, i.bytes)) = some (some (.agg #[.int .i64 0, .int .i64 0]), 2, 16) := by kernel_rfl
theorem tB (q : Nat) (v0 v1 v2 v4 : Value) (ng : Nat) (hng : ng <= 5) (sl : List Int) (hsl : sl.length = 10) (len : Int) (w : World) (hq : BK w q (.cells #[v0, v1, v2, .int .i64 (ng : Int), v4] 116 (0, 0))) :
  Calls Tryz.prog 56 #[.pointer (some ⟨q, 0, none⟩), .agg (bG sl).toArray, .int .i64 len] w fun e w' => ∃ v, e = .returned v /\ w'.ownsRow w.heap.size 31 2 v (ng + 1) (bz (cu len sl ng)) /\ Ex [] w w' := by
 obtain ⟨t0, hi, hz0, hz1, hz2⟩ := info_parts oN
 obtain ⟨hcq, hfq⟩ := hq.all
 have hql := hq.lt
 have h90 := Tryz.underlying121
 clear hq
 go_enter Tryz.func56, Tryz.ntmps56
 go_wp2_with fail
 go_loopg [7, 16] ng (fun gk s7 i16 wr => ∃ (j : Nat), j + gk = ng /\ i16 = .int .i64 j /\ wr.ownsRow (w.heap.size + 1) 31 2 s7 (j + 1) (bz (cu len sl j)) /\ BK wr w.heap.size (.cells (bG sl).toArray 121 (0, 0)) /\ Ex [] w wr)
 case atStart =>
  refine ⟨0, by omega, rfl, ?_, ?_, ((Ex.refl _ _).alloc _).alloc _⟩
  ·have h1 := World.ownsRow_lit (base := w.heap.size + 1) (e := 31) (size := 2) (w.alloc (Obj.cells (bG sl).toArray 121)) #[.int .i64 0, .int .i64 len] 1 (by simp) (by decide) (by simp)
   simpa [bz, cu] using h1
  ·exact (BK.new _ _).alloc _
 case round =>
  obtain ⟨j, hj, rfl, hown, hbs, hx⟩ := hrel
  have HO := aa hown
  have HB := aa hbs
  have HX := aa hx
  cases gk with
  |zero =>
   obtain rfl : j = ng := by omega
   clear hown hbs hx hj
   go_wp2_with fail
   go_ret
   exact ⟨_, rfl, dt HO.O (by omega), HX.O⟩
  |succ g =>
   obtain ⟨p, c, rfl⟩ := aw hown
   have hjn : (j : Int) < (ng : Int) := by omega
   have hj5 : j < 5 := by omega
   obtain ⟨i2, hi2⟩ := exq (2 * j)
   have e1 : IntKind.i64.wrap (2 * (j : Int)) = (i2 : Int) := by
    have : j = 0 \/ j = 1 \/ j = 2 \/ j = 3 \/ j = 4 := by omega
    rcases this with rfl | rfl | rfl | rfl | rfl <;> subst hi2 <;> rfl
   obtain ⟨i3, hi3⟩ := exq (2 * j + 1)
   have e2 : IntKind.i64.wrap ((i2 : Int) + 1) = (i3 : Int) := by
    have : j = 0 \/ j = 1 \/ j = 2 \/ j = 3 \/ j = 4 := by omega
    rcases this with rfl | rfl | rfl | rfl | rfl <;> subst hi2 <;> subst hi3 <;> rfl
   have e4 : (i3 : Int) < 10 := by omega
   have e3 : (i2 : Int) < 10 := by omega
   obtain ⟨hcb, hfb⟩ := hbs.all
   obtain ⟨x, hx0⟩ := exq (sl.getD (2 * j) 0)
   obtain ⟨y, hy0⟩ := exq (sl.getD (2 * j + 1) 0)
   have k0 : wr.cell? ⟨w.heap.size, i2, none⟩ = some (.int .i64 x) := by
    rw [hi2, hcb, List.getElem?_toArray, jb, hx0, List.getD_eq_getElem?_getD, List.getElem?_eq_getElem (by omega)]; rfl
   have k1 : wr.cell? ⟨w.heap.size, i3, none⟩ = some (.int .i64 y) := by
    rw [hi3, hcb, List.getElem?_toArray, jb, hy0, List.getD_eq_getElem?_getD, List.getElem?_eq_getElem (by omega)]; rfl
   have hxs : oq sl j = (x, y) := by rw [hx0, hy0]; rfl
   have HXS := aa hxs
   have hbl := hbs.lt
   have hwl := hx.size
   clear hown hbs hx hcb hfb hx0 hy0 hxs hcq hfq hi2 hi3
   have HN : Hid (∀ i u, [Value.int .i64 x, .int .i64 y][i]? = some u -> (wr.alloc (Obj.cells #[.int .i64 x, .int .i64 y] 31)).drew.cell? ((⟨wr.heap.size, 0, none⟩ : Addr).add i) = some u) := World.news_of_block (BK.drew (BK.new _ _))
   go_wp2_with fail
   go_region_law (refine step_append_lies _ rfl (.tmp 19) (.tmp 30) 22 rfl (w.heap.size + 1) 31 t0 _ 2 16 Tryz.underlying22 hi hz0 hz1 hz2 rfl (by decide) (.slice p (j + 1) c) (j + 1) (bz (cu len sl j)) (by simp [Act.eval, Act.put]) (World.ownsRow.drew (HO.O.alloc _)) ⟨wr.heap.size, 0, none⟩ 1 1 [.int .i64 x, .int .i64 y] (by simp [Act.eval, Act.put]) rfl HN.O (by simp [Value.oneCell']) (by decide) (by unfold maxLen; omega) (by omega) (by simp; omega) _ rfl ?_; intro g0 cap w1 hown1 hgrow hat hlt)
   all_goals
    have HB1 := aa (BK.grown (HB.O.alloc (Obj.cells #[.int .i64 x, .int .i64 y] 31)).drew hgrow (fun e => by have := aG HO.O _ e; omega))
    have HO1 := aa hown1
    have HG1 := aa hgrow
    clear hown1 hgrow hat
    go_wp2_with fail
    go_roundg g
    case measure => omega
    case rel =>
     refine ⟨j + 1, by omega, by simp, ?_, HB1.O, ?_⟩
     ·rw [oK, dL, HXS.O]
      exact HO1.O
     ·refine Ex.grown ((HX.O.alloc _).drew) HG1.O (fun k hk => Or.inr ?_)
      have := aG HO.O k hk
      omega
open Go.Lib
def rsz (s : ByteArray) (a : Nat) : Nat := (Lib.decodeGo (s.extract a s.size)).2
def qx (s : ByteArray) (a : Nat) : Nat := (Lib.decodeGo (s.extract a s.size)).1
theorem size_extract (s : ByteArray) (a e : Nat) (he : e <= s.size) : (s.extract a e).size = e - a := by
 rw [Lib.size_eq, Lib.extract_data, List.length_take, List.length_drop, <- Lib.size_eq]
 omega
theorem yd (n b0 b1 b2 b3 : Nat) : 1 <= (decodeN n b0 b1 b2 b3).2 := by
 unfold decodeN
 repeat' split
 all_goals simp
theorem yg (n b0 b1 b2 b3 : Nat) (hn : 1 <= n) : (decodeN n b0 b1 b2 b3).2 <= n := by
 unfold decodeN
 repeat' split
 all_goals (simp only; omega)
theorem vT (s : ByteArray) (a : Nat) (h : a < s.size) :
  rsz s a = (decodeN (s.size - a) ((s.extract a s.size).get! 0).toNat ((s.extract a s.size).get! 1).toNat ((s.extract a s.size).get! 2).toNat ((s.extract a s.size).get! 3).toNat).2 := by
 have hz := size_extract s a s.size (Nat.le_refl _)
 unfold rsz decodeGo
 rw [if_neg (by omega), decode_at, hz]
 simp
theorem rl (s : ByteArray) : ∀ a, a < s.size -> 1 <= rsz s a /\ a + rsz s a <= s.size := by
 intro a h
 rw [vT s a h]
 exact ⟨yd _ _ _ _ _, by have := yg (s.size - a) ((s.extract a s.size).get! 0).toNat ((s.extract a s.size).get! 1).toNat ((s.extract a s.size).get! 2).toNat ((s.extract a s.size).get! 3).toNat (by omega); omega⟩
def lu (code : List Ins) (s : ByteArray) : Nat -> Nat -> List Th × List Int -> Option (List Int)
 | 0, _, st => cI code st.1
 |f + 1, a, st => if a < s.size then
   if (cy code (qx s a) ((a + rsz s a : Nat) : Int) st.1 ([], st.2)).1.length = 0 then none else lu code s f (a + rsz s a) (cy code (qx s a) ((a + rsz s a : Nat) : Int) st.1 ([], st.2))
  else cI code st.1
def dC (code : List Ins) (s : ByteArray) : Option (List Int) := lu code s s.size 0 (aV cA 0 (wys (bE code (0, 0))) ([], List.replicate code.length (-1)))
theorem vy (code : List Ins) (s : ByteArray) (f : Nat) (st : List Th × List Int) : lu code s f s.size st = cI code st.1 := by
 cases f with
 |zero => rfl
 |succ f => simp [lu]
theorem kY (code : List Ins) (n : Nat) : ∀ ts : List Th, TOK n ts -> ∀ sl, cI code ts = some sl -> sl.length = 10
 | [], _, sl, h => by cases h
 |t :: ts, ht, sl, h => by
  unfold cI at h
  split at h
  ·cases h; exact (ht t (List.mem_cons_self ..)).1
  ·exact kY code n ts (fun y hy => ht y (List.mem_cons_of_mem _ hy)) sl h
theorem rO {B : Nat} {w' : World} (h : Lib.Utf8Tabs 2 3 w) (hx : EB B [] w w') (hB : 3 < B) : Lib.Utf8Tabs 2 3 w' :=
 ⟨fun c hc => (hx.cell (by omega)).trans (h.1 c hc), fun i hi => ⟨(hx.cell (by omega)).trans (h.2 i hi).1, (hx.cell (by omega)).trans (h.2 i hi).2⟩⟩
theorem jT {w' : World} (h : Lib.Utf8Tabs 2 3 w) (hx : Ex [] w w') : Lib.Utf8Tabs 2 3 w' := rO h (EB.ofEx hx (Nat.le_refl _)) (World.block_lt_of_cell? w _ (h.2 0 (by omega)).1)
theorem wT (h : Lib.Utf8Tabs 2 3 w) : 3 < w.heap.size := World.block_lt_of_cell? w _ (h.2 0 (by omega)).1
theorem iQ (b pl : Int) (sl : List Int) : ∀ (n i : Nat), i < sl.length -> (fq b pl n sl)[i]? = if i < n /\ hJ b i = true then some pl else sl[i]?
 | 0, i, hi => by simp [fq]
 |n + 1, i, hi => by
  have ih := iQ b pl sl n i hi
  unfold fq
  by_cases hb : hJ b n = true
  ·rw [if_pos hb]
   by_cases hin : n = i
   ·subst hin
    rw [List.getElem?_set_self (by rw [ep]; exact hi), if_pos ⟨by omega, hb⟩]
   ·rw [List.getElem?_set_ne hin, ih]
    by_cases h : i < n /\ hJ b i = true
    ·rw [if_pos h, if_pos ⟨by omega, h.2⟩]
    ·rw [if_neg h, if_neg (fun e => h ⟨by omega, e.2⟩)]
  ·rw [if_neg hb, ih]
   by_cases h : i < n /\ hJ b i = true
   ·rw [if_pos h, if_pos ⟨by omega, h.2⟩]
   ·rw [if_neg h, if_neg (fun e => h ⟨by
     have : i ≠ n := fun e2 => hb (e2 ▸ e.2)
     omega, e.2⟩)]
theorem rU (b k : Nat) (hb : b < 18446744073709551616) (hk : k < 64) : orM (b : Int) (k : Int) = ((b ||| 2 ^ k : Nat) : Int) /\ (b ||| 2 ^ k) < 18446744073709551616 := by
 have h2 : (2 : Nat) ^ k < 18446744073709551616 := by
  have : (2 : Nat) ^ k < 2 ^ 64 := Nat.pow_lt_pow_right (by decide) hk
  simpa using this
 refine ⟨?_, ?_⟩
 ·unfold orM
  have hw : IntKind.u64.wrap (2 ^ (k : Int).toNat) = ((2 ^ k : Nat) : Int) := by
   rw [Int.toNat_natCast]
   have : ((2 : Int) ^ k) = ((2 ^ k : Nat) : Int) := by push_cast; rfl
   rw [this]
   simp only [IntKind.wrap, IntKind.bits, IntKind.signed]
   have h3 : ((2 ^ k : Nat) : Int) % 18446744073709551616 = ((2 ^ k : Nat) : Int) := Int.emod_eq_of_lt (Int.natCast_nonneg _) (Int.ofNat_lt.2 h2)
   simpa using h3
  rw [hw, u64_or_nat _ _ hb h2]
 ·have : b ||| 2 ^ k < 2 ^ 64 := Nat.or_lt_two_pow (by simpa using hb) (Nat.pow_lt_pow_right (by decide) hk)
  simpa using this
theorem wZ (b k : Nat) (hb : b < 18446744073709551616) (hk : k < 10) (pl : Int) (sl : List Int) (hl : sl.length = 10) : da (orM (b : Int) (k : Int)) pl sl = (da (b : Int) pl sl).set k pl := by
 obtain ⟨e, hlt⟩ := rU b k hb (by omega)
 rw [e]
 apply List.ext_getElem?
 intro i
 by_cases hi : i < 10
 ·unfold da
  rw [iQ _ _ _ _ _ (by omega), List.getElem?_set, iQ _ _ _ _ _ (by omega), fy _ _ hlt, fy _ _ hb, Nat.testBit_or, Nat.testBit_two_pow, ep, hl]
  by_cases hki : k = i
  ·subst hki
   simp [hk]
  ·simp [hki, hi]
 ·rw [List.getElem?_eq_none (by rw [fw, hl]; omega), List.getElem?_eq_none (by rw [List.length_set, fw, hl]; omega)]
theorem sL (pl : Int) (sl : List Int) (hl : sl.length = 10) : da 0 pl sl = sl := by
 apply List.ext_getElem?
 intro i
 by_cases hi : i < 10
 ·unfold da
  rw [iQ _ _ _ _ _ (by omega), show (0 : Int) = ((0 : Nat) : Int) from rfl, fy _ _ (by decide)]
  simp
 ·rw [List.getElem?_eq_none (by rw [fw, hl]; omega), List.getElem?_eq_none (by omega)]
def app (sl : List Int) (m : Mk) : List Int := m.foldl (fun s y => s.set y.1 (y.2 : Int)) sl
theorem iU (sl : List Int) (y : Nat × Nat) (m : Mk) : app sl (y :: m) = app (sl.set y.1 (y.2 : Int)) m := rfl
open Classical in
noncomputable def fut (code : List Ins) (l : List (Nat × Nat)) (pl : Nat) (h : Nat × Nat) : Option Mk := if e : ∃ n v, VEv code l pl h n v then Classical.choose (Classical.choose_spec e) else none
theorem VEv.fut {l : List (Nat × Nat)} {h : Nat × Nat} {v : Option Mk} (e : VEv code l pl h n v) : G.fut code l pl h = v := by
 have hx : ∃ n v, VEv code l pl h n v := ⟨n, v, e⟩
 unfold G.fut
 rw [dif_pos hx]
 exact (Classical.choose_spec (Classical.choose_spec hx)).det e |>.2
theorem VEv.any_m {l : List (Nat × Nat)} {pc m : Nat} {v : Option Mk} {i : Ins} (hc : code[pc]? = some i) (ho : i.op = 0 \/ i.op = 6) (e : VEv code l pl (pc, m) n v) (m' : Nat) : VEv code l pl (pc, m') n v := by
 cases e with
 |take0 h1 h2 => exact .take0 h1 h2
 |takeN h1 h2 h3 => exact .takeN h1 h2 h3
 |takeY h1 h2 h3 h4 => exact .takeY h1 h2 h3 h4
 |acc h1 h2 => exact .acc h1 h2
 |split h1 h2 => simp_all
 |jump h1 h2 => simp_all
 |note h1 h2 => simp_all
 |start h1 h2 => simp_all
 |endN h1 h2 => simp_all
 |endY h1 h2 => simp_all
noncomputable def fstW (code : List Ins) (l : List (Nat × Nat)) (pl : Nat) (sl : List Int) (ws : List (Nat × Int)) : Option (List Int) := ws.findSome? fun y => (fut code l pl (y.1, 1)).map fun m => app (da y.2 pl sl) m
theorem th (code : List Ins) (l : List (Nat × Nat)) (pl : Nat) (sl : List Int) (ws : List (Nat × Int)) (y : Nat × Int) : fstW code l pl sl (ws ++ [y]) = (fstW code l pl sl ws).or ((fut code l pl (y.1, 1)).map fun m => app (da y.2 pl sl) m) := by
 unfold fstW
 rw [List.findSome?_append]
 congr 1
 simp
def wM (code : List Ins) (l : List (Nat × Nat)) (pl : Nat) (y : Nat × Int) : Prop := (∃ i, code[y.1]? = some i /\ (i.op = 0 \/ i.op = 6)) /\ ∃ n v, VEv code l pl (y.1, 1) n v
def lr (code : List Ins) (l : List (Nat × Nat)) (pl : Nat) (sl : List Int) (s : WS) (g : Nat × Nat) : Prop := fstW code l pl sl s.2 = none -> ∃ n, VEv code l pl g n none
def lf (code : List Ins) : Prop := ∀ (k : Nat) (i : Ins), code[k]? = some i -> i.op = 3 -> ∃ a : Nat, (a : Int) = i.sl /\ a < 10
theorem lr.up {l : List (Nat × Nat)} {s s' : WS} {g : Nat × Nat} {x : Option (List Int)} (h : lr code l pl sl s g) (e : fstW code l pl sl s'.2 = (fstW code l pl sl s.2).or x) : lr code l pl sl s' g := fun hn => by
 rw [e] at hn
 cases h9 : fstW code l pl sl s.2 with
 |none => exact h h9
 |some v => rw [h9] at hn; simp at hn
structure Vis (code : List Ins) (l : List (Nat × Nat)) (pl : Nat) (sl : List Int) (s : WS) (h : Nat × Nat) (b : Nat) (v : Option Mk) (s' : WS) : Prop where
 fst : fstW code l pl sl s'.2 = (fstW code l pl sl s.2).or (v.map fun m => app (da b pl sl) m)
 new : ∀ g ∈ s'.1, g ∈ s.1 \/ lr code l pl sl s' g
 ways : ∀ y ∈ s'.2, y ∈ s.2 \/ wM code l pl y
theorem vX (hok : cP code) (hso : lf code) {l : List (Nat × Nat)} (hl : sl.length = 10) : ∀ (f : Nat) (s : WS) (h : Nat × Nat) (b n : Nat) (v : Option Mk), VEv code l pl h n v -> h.1 < code.length -> h.2 < 2 -> b < 18446744073709551616 -> left code.length s.1 < f ->
  (∀ g ∈ s.1, (∃ n' v', VEv code l pl g n' v' /\ n < n') \/ lr code l pl sl s g) -> Vis code l pl sl s h b v (bh code f s h b) := by
 intro f
 induction f with
 |zero => intro s h b n v e h1 h2 hb hf; omega
 |succ f ih =>
  intro s h b n v e h1 h2 hb hf hs
  unfold bh
  by_cases hm : h ∈ s.1
  ·rw [if_pos hm]
   have hd : lr code l pl sl s h := by
    rcases hs h hm with ⟨n', v', e', hlt⟩ | hd
    ·have := (e.det e').1; omega
    ·exact hd
   refine ⟨?_, fun g hg => .inl hg, fun y hy => .inl hy⟩
   cases h9 : fstW code l pl sl s.2 with
   |some x => simp
   |none =>
    obtain ⟨n', e'⟩ := hd h9
    rw [(e.det e').2]
    rfl
  ·rw [if_neg hm]
   have hlf : left code.length (s.1 ++ [h]) < f := by have := nS (n := code.length) hm h1 h2; omega
   have go : ∀ (s2 : WS) (h' : Nat × Nat) (b' n' : Nat) (v' : Option Mk), VEv code l pl h' n' v' -> n' < n -> h'.1 < code.length -> h'.2 < 2 -> b' < 18446744073709551616 -> (∀ x, x ∈ s.1 ++ [h] -> x ∈ s2.1) -> (∃ x, fstW code l pl sl s2.2 = (fstW code l pl sl s.2).or x) ->
     (∀ g ∈ s2.1, g ∈ s.1 ++ [h] \/ lr code l pl sl s2 g) -> Vis code l pl sl s2 h' b' v' (bh code f s2 h' b') := by
    intro s2 h' b' n' v' e' hn g1 g2 hb' hsub hx hnew
    obtain ⟨x, hx⟩ := hx
    refine ih s2 h' b' n' v' e' g1 g2 hb' (Nat.lt_of_le_of_lt (mF hsub) hlf) (fun g hg => ?_)
    rcases hnew g hg with h9 | h9
    ·rcases List.mem_append.1 h9 with h9 | h9
     ·rcases hs g h9 with ⟨a, c, d, hlt⟩ | hd
      ·exact .inl ⟨a, c, d, by omega⟩
      ·exact .inr (hd.up hx)
     ·rw [List.mem_singleton] at h9
      subst h9
      exact .inl ⟨n, v, e, hn⟩
    ·exact .inr h9
   have single : ∀ (h' : Nat × Nat) (b' n' : Nat) (v' : Option Mk), VEv code l pl h' n' v' -> n' < n -> h'.1 < code.length -> h'.2 < 2 -> b' < 18446744073709551616 -> (v'.map fun m => app (da b' pl sl) m) = (v.map fun m => app (da b pl sl) m) -> (v' = none -> v = none) -> Vis code l pl sl s h b v (bh code f (s.1 ++ [h], s.2) h' b') := by
    intro h' b' n' v' e' hn g1 g2 hb' hv hv0
    have hv1 := go (s.1 ++ [h], s.2) h' b' n' v' e' hn g1 g2 hb' (fun x hx => hx) ⟨none, by simp⟩ (fun g hg => .inl hg)
    refine ⟨by rw [hv1.fst, hv], fun g hg => ?_, hv1.ways⟩
    rcases hv1.new g hg with h9 | h9
    ·rcases List.mem_append.1 h9 with h9 | h9
     ·exact .inl h9
     ·rw [List.mem_singleton] at h9
      subst h9
      refine .inr (fun hn0 => ?_)
      rw [hv1.fst] at hn0
      have : v' = none := by
       cases v' with
       |none => rfl
       |some m => simp at hn0
      rw [hv0 this] at e
      exact ⟨n, e⟩
    ·exact .inr h9
   have noway : v = none -> Vis code l pl sl s h b v (s.1 ++ [h], s.2) := by
    intro hv
    subst hv
    refine ⟨by simp, fun g hg => ?_, fun y hy => .inl hy⟩
    rcases List.mem_append.1 hg with h9 | h9
    ·exact .inl h9
    ·rw [List.mem_singleton] at h9
     subst h9
     exact .inr (fun _ => ⟨n, e⟩)
   obtain ⟨pc, m⟩ := h
   cases hc : code[pc]? with
   |none => rw [List.getElem?_eq_none_iff] at hc; simp only at h1; omega
   |some i =>
    have hk := hok pc i hc
    have last : i.op = 0 \/ i.op = 6 -> VEv code l pl (pc, 1) n v -> Vis code l pl sl s (pc, m) b v (s.1 ++ [(pc, m)], s.2 ++ [(pc, (b : Int))]) := by
     intro ho e1
     have h3 : fstW code l pl sl (s.2 ++ [(pc, (b : Int))]) = (fstW code l pl sl s.2).or (v.map fun m => app (da b pl sl) m) := by
      rw [th, e1.fut]
     refine ⟨h3, fun g hg => ?_, fun y hy => ?_⟩
     ·rcases List.mem_append.1 hg with h9 | h9
      ·exact .inl h9
      ·rw [List.mem_singleton] at h9
       subst h9
       refine .inr (fun hn0 => ?_)
       have hn1 : fstW code l pl sl (s.2 ++ [(pc, (b : Int))]) = none := hn0
       rw [h3] at hn1
       have : v = none := by
        cases v with
        |none => rfl
        |some m => simp at hn1
       subst this
       exact ⟨n, e⟩
     ·rcases List.mem_append.1 hy with h9 | h9
      ·exact .inl h9
      ·rw [List.mem_singleton] at h9
       subst h9
       exact .inr ⟨⟨i, hc, ho⟩, n, v, e1⟩
    dsimp only
    by_cases ho : i.op = 0 \/ i.op = 6
    ·rw [if_pos ho]
     exact last ho (e.any_m hc ho 1)
    ·rw [if_neg ho]
     have e0 := e
     cases e with
     |take0 k1 k2 => rw [hc] at k1; cases k1; exact absurd (.inl k2) ho
     |takeN k1 k2 k3 => rw [hc] at k1; cases k1; exact absurd (.inl k2) ho
     |takeY k1 k2 k3 k4 => rw [hc] at k1; cases k1; exact absurd (.inl k2) ho
     |acc k1 k2 => rw [hc] at k1; cases k1; exact absurd (.inr k2) ho
     |@split _ _ _ _ _ n0 n1 v0 v1 k1 k2 k3 k4 =>
      rw [hc] at k1; cases k1
      rw [if_pos k2]
      have p0 := k3.pos
      have p1 := k4.pos
      obtain ⟨⟨a0, ea0, la0⟩, ⟨a1, ea1, la1⟩⟩ : (∃ a : Nat, (a : Int) = i.t0 /\ a < code.length) /\ ∃ a : Nat, (a : Int) = i.t1 /\ a < code.length := by
       rcases hk with h9 | h9 | ⟨_, h9, h10⟩ | ⟨h9, _⟩ | ⟨h9, _⟩ | ⟨h9, _⟩ | ⟨h9, _⟩
       ·omega
       ·omega
       ·exact ⟨h9, h10⟩
       all_goals omega
      have hv0 := go (s.1 ++ [(pc, m)], s.2) (i.t0.toNat, m) b n0 v0 k3 (by omega) (by show i.t0.toNat < _; omega) h2 hb (fun x hx => hx) ⟨none, by simp⟩ (fun g hg => .inl hg)
      have hv1 := go (bh code f (s.1 ++ [(pc, m)], s.2) (i.t0.toNat, m) b) (i.t1.toNat, m) b n1 v1 k4 (by omega) (by show i.t1.toNat < _; omega) h2 hb (fun x hx => eE code f _ _ _ x hx) ⟨_, hv0.fst⟩ hv0.new
      have hf3 : fstW code l pl sl (bh code f (bh code f (s.1 ++ [(pc, m)], s.2) (i.t0.toNat, m) b) (i.t1.toNat, m) b).2 = (fstW code l pl sl s.2).or ((v0.or v1).map fun m => app (da b pl sl) m) := by
       rw [hv1.fst, hv0.fst, Option.or_assoc]
       congr 1
       cases v0 <;> rfl
      refine ⟨hf3, fun g hg => ?_, fun y hy => ?_⟩
      ·rcases hv1.new g hg with h9 | h9
       ·rcases hv0.new g h9 with h10 | h10
        ·rcases List.mem_append.1 h10 with h10 | h10
         ·exact .inl h10
         ·rw [List.mem_singleton] at h10
          subst h10
          refine .inr (fun hn0 => ?_)
          rw [hf3] at hn0
          have : v0.or v1 = none := by
           cases h11 : v0.or v1 with
           |none => rfl
           |some m => rw [h11] at hn0; simp at hn0
          rw [this] at e0
          exact ⟨_, e0⟩
        ·exact .inr (h10.up hv1.fst)
       ·exact .inr h9
      ·rcases hv1.ways y hy with h9 | h9
       ·exact hv0.ways y h9
       ·exact .inr h9
     |@jump _ _ _ _ _ n0 v0 k1 k2 k3 =>
      rw [hc] at k1; cases k1
      rw [if_neg (by omega), if_pos k2]
      obtain ⟨a0, ea0, la0⟩ : ∃ a : Nat, (a : Int) = i.t0 /\ a < code.length := by
       rcases hk with h9 | h9 | ⟨h9, _⟩ | ⟨_, h9⟩ | ⟨h9, _⟩ | ⟨h9, _⟩ | ⟨h9, _⟩
       ·omega
       ·omega
       ·omega
       ·exact h9
       all_goals omega
      exact single _ b n0 _ k3 (by omega) (by show i.t0.toNat < _; omega) h2 hb rfl id
     |@note _ _ _ _ _ n0 v0 k1 k2 k3 =>
      rw [hc] at k1; cases k1
      rw [if_neg (by omega), if_neg (by omega), if_pos k2]
      have hk1 : pc + 1 < code.length := by
       rcases hk with h9 | h9 | ⟨h9, _⟩ | ⟨h9, _⟩ | ⟨_, h9, _⟩ | ⟨h9, _⟩ | ⟨h9, _⟩
       ·omega
       ·omega
       ·omega
       ·omega
       ·exact h9
       all_goals omega
      obtain ⟨a, ea, la⟩ := hso pc i hc k2
      obtain ⟨eo, ol⟩ := rU b a hb (by omega)
      have eo2 : orM (b : Int) i.sl = ((b ||| 2 ^ a : Nat) : Int) := by rw [<- ea]; exact eo
      rw [eo2]
      refine single _ _ n0 _ k3 (by omega) hk1 h2 ol ?_ (fun h9 => by rw [h9]; rfl)
      rw [<- eo, wZ b a hb la pl sl hl, <- ea, Option.map_map]
      congr 1
     |@start _ _ _ _ _ n0 v0 k1 k2 k3 =>
      rw [hc] at k1; cases k1
      rw [if_neg (by omega), if_neg (by omega), if_neg (by omega), if_pos k2]
      have hk1 : pc + 1 < code.length := by
       rcases hk with h9 | h9 | ⟨h9, _⟩ | ⟨h9, _⟩ | ⟨h9, _⟩ | ⟨_, h9⟩ | ⟨h9, _⟩
       ·omega
       ·omega
       ·omega
       ·omega
       ·omega
       ·exact h9
       ·omega
      exact single _ b n0 _ k3 (by omega) hk1 (by show 0 < 2; omega) hb rfl id
     |endN k1 k2 k3 =>
      rw [hc] at k1; cases k1
      rw [if_neg (by omega), if_neg (by omega), if_neg (by omega), if_neg (by omega), if_pos k2, if_neg k3]
      exact noway rfl
     |@endY _ _ _ _ _ n0 v0 k1 k2 k3 k4 =>
      rw [hc] at k1; cases k1
      rw [if_neg (by omega), if_neg (by omega), if_neg (by omega), if_neg (by omega), if_pos k2, if_pos k3]
      have hk1 : pc + 1 < code.length := by
       rcases hk with h9 | h9 | ⟨h9, _⟩ | ⟨h9, _⟩ | ⟨h9, _⟩ | ⟨h9, _⟩ | ⟨_, h9⟩
       ·omega
       ·omega
       ·omega
       ·omega
       ·omega
       ·omega
       ·exact h9
      exact single _ b n0 _ k4 (by omega) hk1 (by show 1 < 2; omega) hb rfl id
theorem rP (hok : cP code) (hso : lf code) {l : List (Nat × Nat)} (hl : sl.length = 10) {h : Nat × Nat} {v : Option Mk} (e : VEv code l pl h n v) (h1 : h.1 < code.length) (h2 : h.2 < 2) :
  fstW code l pl sl (bE code h) = v.map (app sl) /\ ∀ y ∈ bE code h, wM code l pl y := by
 have hv := vX hok hso (pl := pl) hl (2 * code.length + 1) ([], []) h 0 n v e h1 h2 (by decide) (by have := jX code.length []; show left code.length [] < _; omega) (fun g hg => by cases hg)
 refine ⟨?_, fun y hy => ?_⟩
 ·have := hv.fst
  unfold bE
  rw [show ((0 : Int)) = ((0 : Nat) : Int) from rfl, this]
  rw [show (((0 : Nat) : Int)) = 0 from rfl]
  simp only [sL _ _ hl]
  rfl
 ·rcases hv.ways y hy with h9 | h9
  ·cases h9
  ·exact h9
def Srt (ls : List Lab) : Prop := ∀ (a b : Nat) (x y : Lab), a < b -> ls[a]? = some x -> ls[b]? = some y -> jR x.1 y.1 < 0
structure LOK (ls : List Lab) : Prop where
 srt : Srt ls
 len : ls.length <= 60
 nam : ∀ l ∈ ls, xX l.1 = true
 val : ∀ l ∈ ls, l.2.size <= 200 /\ ¬ l.2.size = 0
end Go.Proofs.YtfnanjbleifjkaaGreatDoor.G
namespace Go.Proofs.YtfnanjbleifjkaaGreatDoor
open Go.RowKit
def xR (ls : List Lab) (t : ByteArray) : ByteArray := if d8 ls t then match ls[ft ls t]? with | some l => l.2 | none => ⟨#[]⟩ else ⟨#[]⟩
end Go.Proofs.YtfnanjbleifjkaaGreatDoor
namespace Go.Proofs.YtfnanjbleifjkaaGreatDoor.G
open Go.RowKit
def ya (ss : List ByteArray) (se : ByteArray) : ByteArray := ⟨(Lib.join (ss.map (·.data.toList)) se.data.toList).toArray⟩
def sa (ls : List Lab) (ss : List ByteArray) (se : ByteArray) : ByteArray := ya (ss.map (xR ls)) se
end Go.Proofs.YtfnanjbleifjkaaGreatDoor.G
