/- S0 C3 B1 C4 C5 B2, one behind the other. -/
import Derived.Test.YtcbiidoebpkifaaGreatDoorM01
import Derived.Test.YtcbiidoebpkifaaGreatDoorShelf
import Derived.Lib.Bytealg
import Derived.Laws.OwnMore
import Derived.Laws.CopyRow
import Derived.Laws.AppendOwnNone
import Derived.Deep.AppendLies
import Derived.Deep.RegionLaw
import Derived.Lib.SliceRun
import Derived.Deep.MidRow
set_option linter.unusedVariables false
set_option linter.unusedSimpArgs false
/- The shelf's two contracts, under names of our own. -/
namespace Go.Proofs.YtcbiidoebpkifaaGreatDoor
open Go.RowKit
theorem compare_any (a b : ByteArray) (w : World) :
    Calls Tryz.prog 118 #[.string a, .string b] w fun e w' => e = .returned (.int .i64 (Lib.compareBytes a.data.toList b.data.toList)) ∧ w' = w := Tryz.strings_Compare a b w
theorem cloneIn_any (s : ByteArray) (w : World) (hlim : s.size ≤ 281474976710656) :
    Calls Tryz.prog 86 #[.string s] w fun e w' => e = .returned (.string s) ∧ Below w.heap.size w w' := Tryz.stringslite_Clone s w hlim
end Go.Proofs.YtcbiidoebpkifaaGreatDoor

/- Contracts of package series: where a label is, or where it would belong. -/
namespace Go.Proofs.YtcbiidoebpkifaaGreatDoor
open Go.RowKit

set_option maxHeartbeats 1000000 in
theorem clone_any (s : ByteArray) (w : World) (hs : s.size ≤ 281474976710656) :
    Calls Tryz.prog 49 #[.string s] w fun e w' => e = .returned (.string s) ∧ Ex [] w w' := by
  go_enter Tryz.func49, Tryz.ntmps49
  go_wp2_with fail
  refine (cloneIn_any _ _ hs).mono ?_
  rintro e w' ⟨rfl, hb⟩
  have HB := hide hb
  clear hb
  go_wp2_with fail
  go_ret
  exact ⟨rfl, Ex.below HB.out⟩

def cmpN (a b : ByteArray) : Int := Lib.compareBytes a.data.toList b.data.toList

set_option maxHeartbeats 1000000 in
theorem cmp_any (l : Lab) (t : ByteArray) (w : World) :
    Calls Tryz.prog 117 #[labV l, .string t] w fun e w' => e = .returned (.int .i64 (cmpN l.1 t)) ∧ Ex [] w w' := by
  obtain ⟨a, b⟩ := l
  unfold labV
  go_enter Tryz.func117, Tryz.ntmps117
  go_wp2_with fail
  refine (compare_any _ _ _).mono ?_
  rintro e w' ⟨rfl, rfl⟩
  go_wp2_with fail
  go_ret
  exact ⟨rfl, (Ex.refl _ _).alloc _⟩

def posN (ls : List Lab) (t : ByteArray) : Nat := (ls.takeWhile fun l => decide (cmpN l.1 t < 0)).length
def thereN (ls : List Lab) (t : ByteArray) : Bool := match ls[posN ls t]? with | some l => cmpN l.1 t == 0 | none => false

def SortedFor (ls : List Lab) (t : ByteArray) : Prop := ∀ (a b : Nat) (x y : Lab), a ≤ b → ls[a]? = some x → ls[b]? = some y → cmpN y.1 t < 0 → cmpN x.1 t < 0

theorem posN_eq : ∀ {ls : List Lab} {t : ByteArray} {i : Nat}, i ≤ ls.length → (∀ k l, k < i → ls[k]? = some l → cmpN l.1 t < 0) → (∀ k l, i ≤ k → ls[k]? = some l → ¬ cmpN l.1 t < 0) → posN ls t = i := by
  intro ls t
  induction ls with
  | nil => intro i hi _ _; simp at hi; subst hi; rfl
  | cons a r ih =>
    intro i hi h1 h2
    cases i with
    | zero =>
      have := h2 0 a (Nat.le_refl _) rfl
      simp [posN, List.takeWhile_cons, this]
    | succ i =>
      have ha := h1 0 a (by omega) rfl
      have := ih (i := i) (by simpa using hi) (fun k l hk hl => h1 (k + 1) l (by omega) (by simpa using hl)) (fun k l hk hl => h2 (k + 1) l (by omega) (by simpa using hl))
      simp only [posN, List.takeWhile_cons, ha, decide_true, if_true, List.length_cons]
      unfold posN at this
      omega

set_option maxHeartbeats 2000000 in
set_option maxRecDepth 100000 in
theorem search_any (v : Value) (ls : List Lab) (t : ByteArray) (w : World) (hv : SL w v ls) (hn : ls.length ≤ 1000) (hsrt : SortedFor ls t) :
    Calls Tryz.prog 116 #[v, .string t, .func (.func 117) #[] #[]] w fun e w' => e = .returned (.tuple #[.int .i64 (posN ls t), .bool (thereN ls t)]) ∧ Ex [] w w' := by
  have HV := hide hv
  have HS := hide hsrt
  obtain ⟨p, c, rfl⟩ := hv.slice
  clear hv hsrt
  go_enter Tryz.func116, Tryz.ntmps116
  go_wp2_with fail
  go_loopg [9, 10] ls.length (fun gk i j wr => ∃ a b : Nat, b - a ≤ gk ∧ a ≤ b ∧ b ≤ ls.length ∧ i = .int .i64 a ∧ j = .int .i64 b ∧ (∀ k l, k < a → ls[k]? = some l → cmpN l.1 t < 0) ∧ (∀ k l, b ≤ k → ls[k]? = some l → ¬ cmpN l.1 t < 0) ∧ Ex [] w wr)
  case atStart => exact ⟨0, ls.length, by omega, by omega, by omega, rfl, rfl, fun k l h => by omega, fun k l h hl => (by rw [List.getElem?_eq_none h] at hl; cases hl), Ex.refl _ _⟩
  case round =>
    obtain ⟨a, b, hg, hab, hbl, rfl, rfl, h1, h2, hx⟩ := hrel
    have H1 := hide h1
    have H2 := hide h2
    have HX := hide hx
    by_cases hlt : a < b
    · have hlt' : (a : Int) < (b : Int) := by omega
      obtain ⟨h, hh⟩ : ∃ h : Nat, ((a : Int) + (b : Int)) / 2 = (h : Int) := ⟨(a + b) / 2, by omega⟩
      have hha : a ≤ h := by omega
      have hhb : h < b := by omega
      have hhl : h < ls.length := by omega
      have hhl' : (h : Int) < (ls.length : Int) := by omega
      obtain ⟨l, hl⟩ : ∃ l, ls[h]? = some l := ⟨_, List.getElem?_eq_getElem hhl⟩
      have HLJ := hide hl
      obtain ⟨b', c', rfl, hb, c0, c1⟩ : ∃ b' c', p = some ⟨b', 0, none⟩ ∧ b' < wr.heap.size ∧ wr.cell? ⟨b', h * 2, none⟩ = some (.string l.1) ∧ wr.cell? ⟨b', h * 2 + 1, none⟩ = some (.string l.2) := by
        rcases HV.out with ⟨h1, h2⟩ | ⟨b', c', h1, hb, hc⟩
        · rw [h2] at hhl; simp at hhl
        · cases h1
          obtain ⟨h3, h4⟩ := hc h l hl
          exact ⟨b', 0, rfl, Nat.lt_of_lt_of_le hb hx.size, by rw [hx.cell0.1 b' _ hb]; exact h3, by rw [hx.cell0.1 b' _ hb]; exact h4⟩
      clear h1 h2 hx hl
      go_wp2_with fail
      refine (cmp_any l t _).mono ?_
      rintro e w' ⟨rfl, hx1⟩
      have HX1 := hide hx1
      clear hx1
      by_cases hc : cmpN l.1 t < 0
      · have HC := hide hc
        go_wp2_with fail
        go_roundg (gk - 1)
        case measure => omega
        case rel =>
          refine ⟨h + 1, b, by omega, by omega, by omega, by simp, rfl, fun k l' hk hl' => ?_, H2.out, HX.out.trans HX1.out⟩
          exact HS.out k h l' l (by omega) hl' HLJ.out HC.out
      · have HC := hide hc
        have hc' : 0 ≤ cmpN l.1 t := by omega
        clear hc
        go_wp2_with fail
        go_roundg (gk - 1)
        case measure => omega
        case rel =>
          refine ⟨a, h, by omega, by omega, by omega, rfl, by simp, H1.out, fun k l' hk hl' => Int.not_lt.1 fun hlt2 => ?_, HX.out.trans HX1.out⟩
          exact absurd (HS.out h k l l' hk HLJ.out hl' hlt2) (by have := HC.out; omega)
    · obtain rfl : a = b := by omega
      have hpos : posN ls t = a := posN_eq hbl h1 h2
      have HP := hide hpos
      clear hpos hlt h1 h2
      by_cases hal : a < ls.length
      · have hal' : (a : Int) < (ls.length : Int) := by omega
        obtain ⟨l, hl⟩ : ∃ l, ls[a]? = some l := ⟨_, List.getElem?_eq_getElem hal⟩
        have HLJ := hide hl
        obtain ⟨b, c', rfl, hb, c0, c1⟩ : ∃ b c', p = some ⟨b, 0, none⟩ ∧ b < wr.heap.size ∧ wr.cell? ⟨b, a * 2, none⟩ = some (.string l.1) ∧ wr.cell? ⟨b, a * 2 + 1, none⟩ = some (.string l.2) := by
          rcases HV.out with ⟨h1, h2⟩ | ⟨b, c', h1, hb, hc⟩
          · rw [h2] at hal; simp at hal
          · cases h1
            obtain ⟨h3, h4⟩ := hc a l hl
            exact ⟨b, 0, rfl, Nat.lt_of_lt_of_le hb hx.size, by rw [hx.cell0.1 b _ hb]; exact h3, by rw [hx.cell0.1 b _ hb]; exact h4⟩
        clear hx hl
        go_wp2_with fail
        refine (cmp_any l t _).mono ?_
        rintro e w' ⟨rfl, hx1⟩
        have HX1 := hide hx1
        clear hx1
        go_wp2_with fail
        go_ret2
        refine ⟨?_, HX.out.trans HX1.out⟩
        simp [thereN, unhide HP, HLJ.out]
      · obtain rfl : a = ls.length := by omega
        clear hx hal
        go_wp2_with fail
        go_ret2
        refine ⟨?_, HX.out⟩
        simp [thereN, unhide HP]

structure LS (w : World) (q base : Nat) (ls : List Lab) : Prop where
  lt : q < base
  le : base ≤ w.heap.size
  ex : ∃ v, BK w q (.cells #[v] 143 (0, 0)) ∧ w.ownsRow base 42 2 v ls.length (ls.flatMap fun l => [.string l.1, .string l.2])

theorem flat_at : ∀ (ls : List Lab) (j : Nat) (l : Lab), ls[j]? = some l → (ls.flatMap fun l => [Value.string l.1, Value.string l.2])[j * 2]? = some (.string l.1) ∧ (ls.flatMap fun l => [Value.string l.1, Value.string l.2])[j * 2 + 1]? = some (.string l.2)
  | [], j, l, h => by simp at h
  | a :: r, 0, l, h => by simp at h; subst h; simp
  | a :: r, j + 1, l, h => by
    have := flat_at r j l (by simpa using h)
    simp only [List.flatMap_cons, List.cons_append, List.nil_append]
    rw [show (j + 1) * 2 = j * 2 + 1 + 1 by omega]
    simpa using this

theorem own_sl {w : World} {base : Nat} {v : Value} {ls : List Lab} (h : w.ownsRow base 42 2 v ls.length (ls.flatMap fun l => [.string l.1, .string l.2])) : SL w v ls := by
  rcases h.2 with ⟨rfl, h2⟩ | ⟨g, cap, cur, rfl, hb, hg, hn, hm, hs, ht⟩
  · exact .inl ⟨rfl, List.length_eq_zero_iff.1 h2⟩
  · refine .inr ⟨g, cap, rfl, (Array.getElem?_eq_some_iff.1 hg).1, fun j l hj => ?_⟩
    have hjl : j < ls.length := (List.getElem?_eq_some_iff.1 hj).1
    have h1 := flat_at ls j l hj
    rw [cell_of_row w g _ cur _ _ hg, cell_of_row w g _ cur _ _ hg]
    rw [← ht, List.getElem?_take, List.getElem?_take, if_pos (by omega), if_pos (by omega)] at h1
    simpa using h1

end Go.Proofs.YtcbiidoebpkifaaGreatDoor

/- Laws of no program: 'clear' on the last element of a row that is owned. -/
namespace Go.Proofs.YtcbiidoebpkifaaGreatDoor
open Go.RowKit

theorem Ex.setRow {l : List Nat} {a w : World} (h : Ex l a w) {g : Nat} (hg : g ∈ l ∨ a.heap.size ≤ g) (cs : Array Value) : Ex l a (w.setRow g cs) :=
  ⟨h.os, h.tape, h.output, by simpa using h.size, fun k hk hn => by
    rw [setRow_other w g k cs (by rintro rfl; rcases hg with hg | hg; · exact hn hg
                                  · omega)]; exact h.block k hk hn⟩

theorem run_clear_one {P : Program} (w : World) (t e ty : TypeId) (z : Value) (ht : P.underlying t = some (.slice e)) (hv : ∀ w, (zeroValue e).run P w = .ok z w)
    (zs : List Value) (hzs : (Builtin.zeroCells z.cells 1).toList = zs) (h1 : ∀ v ∈ zs, v.oneCell' = true) (g o c : Nat) (cur : Array Value) (te : TypeId)
    (hg : w.heap[g]? = some (.cells cur te (0, 0))) (hl : o + zs.length ≤ cur.size) :
    (Builtin.clear_ #[t] ty #[.slice (some ⟨g, o, none⟩) 1 c]).run P w = .ok (.tuple #[]) (w.setRow g (cur.toList.take o ++ zs ++ cur.toList.drop (o + zs.length)).toArray) := by
  have hst := run_storeCells_at P g o te zs 0 cur w hg (by simpa using hl) h1
  simp only [Nat.add_zero] at hst
  simp [Builtin.clear_, run_underlying ht, hv, hzs, hst]

theorem run_clear_last {P : Program} (w : World) (t e ty : TypeId) (z : Value) (ht : P.underlying t = some (.slice e)) (hv : ∀ w, (zeroValue e).run P w = .ok z w)
    (zs : List Value) (hzs : (Builtin.zeroCells z.cells 1).toList = zs) (h1 : ∀ v ∈ zs, v.oneCell' = true) (base sz g n m cap c : Nat) (xs : List Value)
    (hz : zs.length = sz) (hm : m + 1 ≤ cap) (hnm : n ≤ m) (hown : w.ownsRow base e sz (.slice (some ⟨g, 0, none⟩) n cap) n xs) :
    ∃ w', (Builtin.clear_ #[t] ty #[.slice (some ⟨g, m * sz, none⟩) 1 c]).run P w = .ok (.tuple #[]) w' ∧ w'.ownsRow base e sz (.slice (some ⟨g, 0, none⟩) n cap) n xs ∧ Ex [g] w w' := by
  rcases hown.2 with ⟨h, _⟩ | ⟨g', cap', cur, h, hbg, hg, hnc, hcm, hcs, htake⟩
  · cases h
  · cases h
    have hle : m * sz + zs.length ≤ cur.size := by rw [hcs, hz, ← Nat.succ_mul]; exact Nat.mul_le_mul_right _ hm
    have hnl : n * sz ≤ m * sz := Nat.mul_le_mul_right _ hnm
    refine ⟨_, run_clear_one w t e ty z ht hv zs hzs h1 g (m * sz) c cur e hg hle, ⟨hown.1, .inr ⟨g, cap, _, rfl, hbg, setRow_heap w g cur _ e (0, 0) hg, hnc, hcm, ?_, ?_⟩⟩, (Ex.refl _ _).setRow (.inl (by simp)) _⟩
    · simp only [List.size_toArray, List.length_append, List.length_take, List.length_drop, Array.length_toList]
      omega
    · rw [← htake, List.toList_toArray, List.append_assoc, List.take_append_of_le_length (by simp; omega), List.take_take, Nat.min_eq_left hnl]

theorem own_less {w : World} {base e sz g n cap : Nat} {xs : List Value} (h : w.ownsRow base e sz (.slice (some ⟨g, 0, none⟩) n cap) n xs) {i : Nat} (hi : i ≤ n) :
    w.ownsRow base e sz (.slice (some ⟨g, 0, none⟩) i cap) i (xs.take (i * sz)) := by
  have hle : i * sz ≤ n * sz := Nat.mul_le_mul_right _ hi
  rcases h.2 with ⟨h', _⟩ | ⟨g', cap', cur, h', hbg, hg, hnc, hcm, hcs, htake⟩
  · cases h'
  · cases h'
    refine ⟨by rw [List.length_take, h.1]; exact Nat.min_eq_left hle, .inr ⟨g, cap, cur, rfl, hbg, hg, by omega, hcm, hcs, ?_⟩⟩
    rw [← htake, List.take_take, Nat.min_eq_left hle]

theorem own_cell {w : World} {base e sz g n cap : Nat} {xs : List Value} (h : w.ownsRow base e sz (.slice (some ⟨g, 0, none⟩) n cap) n xs) {j : Nat} {u : Value} (hj : xs[j]? = some u) :
    w.cell? ⟨g, j, none⟩ = some u := by
  rcases h.2 with ⟨h', _⟩ | ⟨g', cap', cur, h', hbg, hg, hnc, hcm, hcs, htake⟩
  · cases h'
  · cases h'
    have hjl : j < n * sz := by rw [← h.1]; exact (List.getElem?_eq_some_iff.1 hj).1
    rw [cell_of_row w g _ cur _ _ hg]
    rw [← htake, List.getElem?_take, if_pos hjl] at hj
    simpa using hj

theorem step_append_run {P : Program} {ops : Array Oper} {o : Oper} {a : Act} {w : World} {K : Act → World → Prop} {Q : Exit → Act → World → Prop} {E : Prop}
    (hg : o.guard = none) (s x : Operand) (t : TypeId) (hop : o.op = Op.call { callee := Callee.builtin Builtin.append, args := #[s, x], argTypes := #[t, t] })
    (v u : Value) (hd : a.eval s = v) (hx : a.eval x = u) {v' : Value} {w' : World} (hr : (Builtin.append_ #[t, t] o.type #[v, u]).run P w = .ok v' w') (hK : K (a.put o.dst v') w') :
    if Region.wanted o (yielded ops a.tmps) = true then Oper.wp P o a w K Q else E := by
  have hw : Region.wanted o (yielded ops a.tmps) = true := by simp [Region.wanted, hg]
  rw [if_pos hw]
  unfold Oper.wp
  simp [execOp, hop, resolve, invoke, builtin, hd, hx, hr, Result.andThen]
  exact hK

theorem wpList_append_run {P : Program} (w : World) {ops : Array Oper} {rest : List Oper} {o : Oper} {a : Act} {Q : Exit → Act → World → Prop} (hgd : o.guard = none) (s x : Operand) (t : TypeId)
    (ho : o.op = .call { callee := .builtin .append, args := #[s, x], argTypes := #[t, t] }) (v u : Value) (hs : a.eval s = v) (hx : a.eval x = u) {v' : Value} {w' : World}
    (hr : (Builtin.append_ #[t, t] o.type #[v, u]).run P w = .ok v' w') (h : wpList P ops Q rest (a.put o.dst v') w') : wpList P ops Q (o :: rest) a w := by
  refine wpList_plain hgd fun K hK => ?_
  unfold Oper.wp
  simp [execOp, ho, resolve, invoke, builtin, hs, hx, hr, Result.andThen]
  exact hK _ _ h

theorem wpList_clear_run {P : Program} (w : World) {ops : Array Oper} {rest : List Oper} {o : Oper} {a : Act} {Q : Exit → Act → World → Prop} (hgd : o.guard = none) (s : Operand) (t : TypeId)
    (ho : o.op = .call { callee := .builtin .clear, args := #[s], argTypes := #[t] }) (v : Value) (hs : a.eval s = v) {v' : Value} {w' : World}
    (hr : (Builtin.clear_ #[t] o.type #[v]).run P w = .ok v' w') (h : wpList P ops Q rest (a.put o.dst v') w') : wpList P ops Q (o :: rest) a w := by
  refine wpList_plain hgd fun K hK => ?_
  unfold Oper.wp
  simp [execOp, ho, resolve, invoke, builtin, hs, hr, Result.andThen]
  exact hK _ _ h

def Plain (xs : List Value) : Prop := ∀ u ∈ xs, u.oneCell' = true
end Go.Proofs.YtcbiidoebpkifaaGreatDoor

/- Contracts of slices.Delete, Insert and Clone at labels. -/
namespace Go.Proofs.YtcbiidoebpkifaaGreatDoor
open Go.RowKit

theorem infoLab : (Tryz.prog.info? 42).map (fun i => (i.zero, i.size, i.bytes)) = some (some (.agg #[.string ⟨#[]⟩, .string ⟨#[]⟩]), 2, 32) := by kernel_rfl
theorem zeroLab (w : World) : (zeroValue 42).run Tryz.prog w = .ok (.agg #[.string ⟨#[]⟩, .string ⟨#[]⟩]) w := by kernel_rfl

set_option maxHeartbeats 1000000 in
set_option maxRecDepth 100000 in
theorem deleteLab (base g n cap i : Nat) (xs : List Value) (w : World) (hown : w.ownsRow base 42 2 (.slice (some ⟨g, 0, none⟩) n cap) n xs) (hi : i < n) (hn : n ≤ 1000) (hp : Plain xs) :
    Calls Tryz.prog 83 #[.slice (some ⟨g, 0, none⟩) n cap, .int .i64 i, .int .i64 ((i + 1 : Nat) : Int)] w fun e w' => e = .returned (.slice (some ⟨g, 0, none⟩) (n - 1) cap) ∧
      w'.ownsRow base 42 2 (.slice (some ⟨g, 0, none⟩) (n - 1) cap) (n - 1) (xs.take (i * 2) ++ xs.drop ((i + 1) * 2)) ∧ Ex [g] w w' := by
  obtain ⟨t0, hti, hzz0, hzz1, hzz2⟩ := info_parts infoLab
  have hnc : n ≤ cap ∧ cap ≤ maxLen := by
    rcases hown.2 with ⟨h, _⟩ | ⟨g', cap', cur, h, hbg, hg, hnc, hcm, _⟩
    · cases h
    · cases h; exact ⟨hnc, hcm⟩
  obtain ⟨hnc, hcm⟩ := hnc
  have HO := hide hown
  have hcm' : cap ≤ 9223372036854775807 := hcm
  clear hown hcm
  have h1 : (i : Int) < (n : Int) := by omega
  have h2 : (i : Int) + 1 ≤ (n : Int) := by omega
  have h3 : i ≤ cap := by omega
  have h4 : ((i : Int) + 1).toNat = i + 1 := by omega
  have h5 : i + 1 ≤ n := by omega
  have h6 : (0 : Int) ≤ (i : Int) + 1 := by omega
  by_cases hc : cap = i + 1
  · have hni : n = i + 1 := by omega
    subst hc
    subst hni
    obtain ⟨w1, hr1, ho1, hg1⟩ := run_append_fits (P := Tryz.prog) (w := w.drew) base 32 32 42 t0 2 Tryz.underlying32 hti hzz1 g i (i + 1) _ (own_less HO.out.drew (Nat.le_of_lt hi)) ⟨g, 0, none⟩ 0 0 []
      rfl (fun j u hj => by simp at hj) (fun u hu => by simp at hu) (by omega)
    have hdr : xs.drop ((i + 1) * 2) = [] := List.drop_of_length_le (by rw [HO.out.1]; exact Nat.le_refl _)
    rw [hdr]
    have HO1 := hide ho1
    have HG1 := hide hg1
    clear ho1 hg1 hdr
    simp only [Nat.add_zero] at hr1
    have h10 : (i : Int) ≤ (i : Int) + 1 := by omega
    go_enter Tryz.func83, Tryz.ntmps83
    go_wp2_with fail
    go_region_law (refine step_append_run rfl _ _ 32 rfl (.slice (some ⟨g, 0, none⟩) i (i + 1)) (.slice (some ⟨g, 0, none⟩) 0 0) (by simp [Act.eval, Act.put]) (by simp [Act.eval, Act.put]) hr1 ?_)
    obtain ⟨w2, hr2, ho2, hx2⟩ := run_clear_last (P := Tryz.prog) w1 32 42 0 _ Tryz.underlying32 zeroLab [.string ⟨#[]⟩, .string ⟨#[]⟩] (by kernel_rfl) (by simp [Value.oneCell']) base 2 g i i (i + 1) 1 _ rfl (by omega) (by omega) HO1.out
    have HO2 := hide ho2
    have HX2 := hide hx2
    clear ho2 hx2 hr1
    go_wp2_with (at_builtin; refine wpList_clear_run _ rfl _ 32 rfl _ rfl hr2 ?_)
    go_ret
    exact ⟨by simp, by simpa using HO2.out, ((Ex.refl _ _).drew.grown HG1.out (fun k hk => by cases hk; exact .inl (by simp))).trans HX2.out⟩
  · obtain ⟨w1, hr1, ho1, hg1⟩ := run_append_fits (P := Tryz.prog) (w := w.drew) base 32 32 42 t0 2 Tryz.underlying32 hti hzz1 g i cap _ (own_less HO.out.drew (Nat.le_of_lt hi)) ⟨g, (i + 1) * 2, none⟩ (n - (i + 1)) (cap - (i + 1)) (xs.drop ((i + 1) * 2))
      (by rw [List.length_drop, HO.out.1]; omega) (fun j u hj => by rw [Addr.add_lit]; exact own_cell HO.out.drew (by rwa [List.getElem?_drop] at hj)) (fun u hu => hp u (List.mem_of_mem_drop hu)) (by omega)
    rw [show i + (n - (i + 1)) = n - 1 by omega] at hr1 ho1
    have HO1 := hide ho1
    have HG1 := hide hg1
    clear ho1 hg1
    go_enter Tryz.func83, Tryz.ntmps83
    go_wp2_with fail
    go_region_law (refine step_append_run rfl _ _ 32 rfl (.slice (some ⟨g, 0, none⟩) i cap) (.slice (some ⟨g, (i + 1) * 2, none⟩) (n - (i + 1)) (cap - (i + 1))) (by simp [Act.eval, Act.put]) (by simp [Act.eval, Act.put]) hr1 ?_)
    obtain ⟨w2, hr2, ho2, hx2⟩ := run_clear_last (P := Tryz.prog) w1 32 42 0 _ Tryz.underlying32 zeroLab [.string ⟨#[]⟩, .string ⟨#[]⟩] (by kernel_rfl) (by simp [Value.oneCell']) base 2 g (n - 1) (n - 1) cap (cap - (n - 1)) _ rfl (by omega) (by omega) HO1.out
    have HO2 := hide ho2
    have HX2 := hide hx2
    clear ho2 hx2 hr1
    have h7 : n - (n - 1) = 1 := by omega
    have h8 : n - 1 ≤ n := by omega
    have h9 : ¬ cap = n - 1 := by omega
    go_wp2_with (at_builtin; refine wpList_clear_run _ rfl _ 32 rfl _ rfl hr2 ?_)
    go_ret
    exact ⟨rfl, HO2.out, ((Ex.refl _ _).drew.grown HG1.out (fun k hk => by cases hk; exact .inl (by simp))).trans HX2.out⟩
end Go.Proofs.YtcbiidoebpkifaaGreatDoor

/- Contracts of slices.Insert behind the last label, slices.Clone of labels, cut. -/
namespace Go.Proofs.YtcbiidoebpkifaaGreatDoor
open Go.RowKit

set_option maxHeartbeats 1000000 in
set_option maxRecDepth 100000 in
theorem insertEnd (base n vb : Nat) (v : Value) (xs : List Value) (l : Lab) (w : World) (hown : w.ownsRow base 42 2 v n xs) (hn : n ≤ 1000) (hb : base ≤ w.heap.size)
    (hv : BK w vb (.cells #[.string l.1, .string l.2] 42 (0, 0))) :
    Calls Tryz.prog 84 #[v, .int .i64 n, .slice (some ⟨vb, 0, none⟩) 1 1] w fun e w' => ∃ v', e = .returned v' ∧
      w'.ownsRow base 42 2 v' (n + 1) (xs ++ [.string l.1, .string l.2]) ∧ w.grownBy w' v.ownBlock ∧ (v.ownBlock = v'.ownBlock ∨ v'.ownBlock = some w.heap.size) := by
  obtain ⟨t0, hti, hzz0, hzz1, hzz2⟩ := info_parts infoLab
  have HO := hide hown
  obtain ⟨p, c, rfl⟩ := own_slice hown
  obtain ⟨hc, hf⟩ := hv.all
  have hnc : n ≤ c := by
    rcases hown.2 with ⟨h, h2⟩ | ⟨g', cap', cur, h, hbg, hg, hnc, hcm, _⟩
    · cases h; omega
    · cases h; exact hnc
  have hce : c = n → n ≤ c := fun _ => hnc
  have HN : Hid (∀ j u, [Value.string l.1, .string l.2][j]? = some u → w.cell? ((⟨vb, 0, none⟩ : Addr).add j) = some u) := by
    intro j u hj
    rw [Addr.add_lit, Nat.zero_add, hc]
    simpa using hj
  clear hown hv hc hf hce
  have hpn : (p = none → n = 0) := by
    intro h; subst h
    rcases HO.out.2 with ⟨h, h2⟩ | ⟨g', cap', cur, h, _⟩
    · exact h2
    · cases h
  go_enter Tryz.func84, Tryz.ntmps84
  go_wp2_with (at_builtin; refine wpList_append_lies _ rfl _ _ 32 rfl base 42 t0 _ 2 32 Tryz.underlying32 hti hzz0 hzz1 hzz2 rfl (by decide) _ n xs rfl HO.out ⟨vb, 0, none⟩ 1 1 [.string l.1, .string l.2] rfl rfl HN.out (by simp [Value.oneCell']) (by decide) (by unfold maxLen; omega) (by omega) hb _ rfl ?_)
  all_goals
    intro g cap w' hown' hgrow hloc hlt
    have HO1 := hide hown'
    have HG := hide hgrow
    have HL := hide hloc
    clear hown' hgrow hloc hlt
    go_wp2_with fail
    go_ret
    have e : ∀ c, (Value.slice p n c).ownBlock = p.map (·.block) := fun c => by cases p <;> rfl
    refine ⟨_, rfl, HO1.out, by have := HG.out; rw [e] at this ⊢; exact this, ?_⟩
    have := HL.out
    rw [e] at this ⊢
    exact this.imp id (fun h => by rw [h]; rfl)

set_option maxHeartbeats 1000000 in
theorem cut_short (s : ByteArray) (w : World) (hs : s.size ≤ 200) :
    Calls Tryz.prog 85 #[.string s] w fun e w' => e = .returned (.string s) ∧ w' = w := by
  have h1 : (s.size : Int) ≤ 200 := by omega
  go_enter Tryz.func85, Tryz.ntmps85
  go_wp2_with fail
  go_ret
  exact ⟨rfl, rfl⟩

theorem flat_len : ∀ (ls : List Lab), (ls.flatMap fun l => [Value.string l.1, Value.string l.2]).length = ls.length * 2
  | [] => rfl
  | a :: r => by
    simp only [List.flatMap_cons, List.length_append, flat_len r, List.length_cons, List.length_nil]
    omega
theorem flat_plain (ls : List Lab) : ∀ u ∈ (ls.flatMap fun l => [Value.string l.1, Value.string l.2]), u.oneCell' = true := by
  intro u hu
  obtain ⟨l, _, hl⟩ := List.mem_flatMap.1 hu
  simp only [List.mem_cons, List.not_mem_nil, or_false] at hl
  rcases hl with rfl | rfl <;> rfl
theorem flat_cells {w : World} {b : Nat} {ls : List Lab} (hc : ∀ j l, ls[j]? = some l → w.cell? ⟨b, j * 2, none⟩ = some (.string l.1) ∧ w.cell? ⟨b, j * 2 + 1, none⟩ = some (.string l.2)) {j : Nat} {u : Value}
    (hj : (ls.flatMap fun l => [Value.string l.1, Value.string l.2])[j]? = some u) : w.cell? ⟨b, j, none⟩ = some u := by
  have hjl : j < ls.length * 2 := by rw [← flat_len]; exact (List.getElem?_eq_some_iff.1 hj).1
  obtain ⟨l, hl⟩ : ∃ l, ls[j / 2]? = some l := ⟨_, List.getElem?_eq_getElem (by omega)⟩
  have h1 := flat_at ls (j / 2) l hl
  have h2 := hc (j / 2) l hl
  rcases Nat.mod_two_eq_zero_or_one j with hm | hm
  · have e : j / 2 * 2 = j := by omega
    rw [e] at h1 h2
    rw [h1.1] at hj
    rw [h2.1]; exact hj
  · have e : j / 2 * 2 + 1 = j := by omega
    rw [e] at h1 h2
    rw [h1.2] at hj
    rw [h2.2]; exact hj

set_option maxHeartbeats 1000000 in
set_option maxRecDepth 100000 in
theorem cloneLab (v : Value) (ls : List Lab) (w : World) (hv : SL w v ls) (hn : ls.length ≤ 1000) :
    Calls Tryz.prog 51 #[v] w fun e w' => ∃ v', e = .returned v' ∧
      w'.ownsRow w.heap.size 42 2 v' ls.length (ls.flatMap fun l => [.string l.1, .string l.2]) ∧ Ex [] w w' := by
  obtain ⟨t0, hti, hzz0, hzz1, hzz2⟩ := info_parts infoLab
  have hnil := fun (W : World) (a : Option Addr) (n c n' c' : Nat) => Lib.run_eql_slice_nil (P := Tryz.prog) W 32 42 a n c n' c' Tryz.underlying32
  rcases hv with ⟨rfl, rfl⟩ | ⟨b, c, rfl, hb, hc⟩
  · go_enter Tryz.func51, Tryz.ntmps51
    go_wp2_with fail
    go_ret
    exact ⟨_, rfl, World.ownsRow_nil _ _ _ _, Ex.refl _ _⟩
  · cases hls : ls with
    | nil =>
      subst hls
      obtain ⟨w1, hr1, ho1, hg1⟩ := run_append_fits (P := Tryz.prog) (w := w.alloc (.cells #[] 42)) w.heap.size 32 32 42 t0 2 Tryz.underlying32 hti hzz1 w.heap.size 0 0 []
        ⟨rfl, .inr ⟨_, _, #[], rfl, Nat.le_refl _, heap_alloc_new w _, Nat.le_refl _, by unfold maxLen; omega, rfl, rfl⟩⟩ ⟨b, 0, none⟩ 0 c []
        rfl (fun j u hj => by simp at hj) (fun u hu => by simp at hu) (by omega)
      have HO1 := hide ho1
      have HG1 := hide hg1
      clear ho1 hg1 hc
      simp only [Nat.add_zero] at hr1
      simp only [List.length_nil]
      go_enter Tryz.func51, Tryz.ntmps51
      go_wp2_with (at_builtin; refine wpList_append_run _ rfl _ _ 32 rfl _ _ rfl rfl hr1 ?_)
      go_ret
      exact ⟨_, rfl, HO1.out, ((Ex.refl _ _).alloc _).grown HG1.out (fun k hk => by cases hk; exact .inr (Nat.le_refl _))⟩
    | cons a r =>
      rw [← hls]
      have hpos : 0 < ls.length := by rw [hls]; simp
      have HC := hide hc
      clear hc hls
      have hown0 : (w.alloc (.cells #[] 42)).ownsRow w.heap.size 42 2 (.slice (some ⟨w.heap.size, 0, none⟩) 0 0) 0 [] :=
        ⟨rfl, .inr ⟨_, _, #[], rfl, Nat.le_refl _, heap_alloc_new w _, Nat.le_refl _, by unfold maxLen; omega, rfl, rfl⟩⟩
      have HO := hide hown0
      clear hown0
      have hlen : (ls.flatMap fun l => [Value.string l.1, .string l.2]).length = ls.length * 2 := flat_len ls
      have HLN := hide hlen
      have HN : Hid (∀ j u, (ls.flatMap fun l => [Value.string l.1, .string l.2])[j]? = some u → (w.alloc (.cells #[] 42)).cell? ((⟨b, 0, none⟩ : Addr).add j) = some u) := by
        intro j u hj
        rw [Addr.add_lit, Nat.zero_add, ((Ex.refl [] w).alloc _).cell0.1 b j hb]
        exact flat_cells HC.out hj
      clear hlen
      go_enter Tryz.func51, Tryz.ntmps51
      go_wp2_with (at_builtin; refine wpList_append_lies _ rfl _ _ 32 rfl w.heap.size 42 t0 _ 2 32 Tryz.underlying32 hti hzz0 hzz1 hzz2 rfl (by decide) _ 0 [] rfl HO.out ⟨b, 0, none⟩ ls.length c _ rfl HLN.out HN.out (flat_plain ls) hpos (by unfold maxLen; omega) (by omega) (by simp) _ rfl ?_)
      intro g cap w' hown' hgrow hloc hlt
      have HO1 := hide hown'
      have HG := hide hgrow
      clear hown' hgrow hloc hlt
      go_wp2_with fail
      go_ret
      refine ⟨_, rfl, by simpa using HO1.out, ((Ex.refl _ _).alloc _).grown HG.out (fun k hk => by cases hk; exact .inr (Nat.le_refl _))⟩
end Go.Proofs.YtcbiidoebpkifaaGreatDoor

/- Laws of no program: 'copy' from a row that is owned. -/
namespace Go.Proofs.YtcbiidoebpkifaaGreatDoor
open Go.RowKit

theorem run_copy_own {P : Program} (w : World) (dT sT ty elem : TypeId) (i : TypeInfo) (base sz n : Nat) (v : Value) (xs : List Value) (d dLen dCap : Nat) (cur : Array Value) (t : TypeId)
    (hu : P.underlying dT = some (.slice elem)) (hi : P.info? elem = some i) (hsz : i.size = sz) (hown : w.ownsRow base elem sz v n xs) (hp : ∀ u ∈ xs, u.oneCell' = true)
    (hd : w.heap[d]? = some (.cells cur t (0, 0))) (hn : n ≤ dLen) (hfit : n * sz ≤ cur.size) :
    (Builtin.copy_ #[dT, sT] ty #[.slice (some ⟨d, 0, none⟩) dLen dCap, v]).run P w = .ok (goInt n) (w.setRow d (xs ++ cur.toList.drop (n * sz)).toArray) := by
  subst hsz
  rcases hown.2 with ⟨rfl, rfl⟩ | ⟨g, cap, c2, rfl, hb, hg, hnc, hcm, hcs, ht⟩
  · have hx : xs = [] := List.length_eq_zero_iff.1 (by simpa using hown.1)
    subst hx
    have hself : w.setRow d ([] ++ cur.toList.drop (0 * i.size)).toArray = w := by
      simp only [Nat.zero_mul, List.drop_zero, List.nil_append, Array.toArray_toList]
      exact setRow_self w d cur t (0, 0) hd
    rw [hself]
    simp [Builtin.copy_, run_underlying hu, Builtin.lenOf, Builtin.firstCells, sizeOf, typeInfo, hi, storeCells]
  · have hmin : Nat.min n dLen = n := Nat.min_eq_left hn
    have hl : (loadCells ⟨g, 0, none⟩ xs.length).run P w = .ok xs.toArray w := run_loadCells_list (P := P) w ⟨g, 0, none⟩ xs (fun j u hj => by rw [Addr.add_lit, Nat.zero_add]; exact own_cell hown hj)
    have hst := run_storeCells_at P d 0 t xs 0 cur w hd (by simp only [Nat.zero_add]; rw [hown.1]; exact hfit) hp
    simp only [Nat.add_zero, Nat.zero_add, List.take_zero, List.nil_append] at hst
    rw [hown.1] at hl hst
    simp [Builtin.copy_, run_underlying hu, Builtin.lenOf, Builtin.firstCells, sizeOf, typeInfo, hi, hmin, hl, hst]

theorem step_copy_run {P : Program} {ops : Array Oper} {o : Oper} {a : Act} {w : World} {K : Act → World → Prop} {Q : Exit → Act → World → Prop} {E : Prop}
    (hg : o.guard = none) (s x : Operand) (t t' : TypeId) (hop : o.op = Op.call { callee := Callee.builtin Builtin.copy, args := #[s, x], argTypes := #[t, t'] })
    (v u : Value) (hd : a.eval s = v) (hx : a.eval x = u) {v' : Value} {w' : World} (hr : (Builtin.copy_ #[t, t'] o.type #[v, u]).run P w = .ok v' w') (hK : K (a.put o.dst v') w') :
    if Region.wanted o (yielded ops a.tmps) = true then Oper.wp P o a w K Q else E := by
  have hw : Region.wanted o (yielded ops a.tmps) = true := by simp [Region.wanted, hg]
  rw [if_pos hw]
  unfold Oper.wp
  simp [execOp, hop, resolve, invoke, builtin, hd, hx, hr, Result.andThen]
  exact hK

theorem results_cell1 {P : Program} {fn : Func} {tmps : Array Value} {w : World} {a : Tmp} {t : TypeId} {ad : Addr} {v : Value} (hf : fn.results = #[.cell a t]) (ha : tmps.getD a undef = .pointer (some ad)) (hl : (loadVar t ad).run P w = .ok v w) :
    (results fn tmps).run P w = .ok v w := by
  have ha' : tmps[a]?.getD undef = .pointer (some ad) := by rw [← ha]; simp
  unfold results
  rw [hf]
  simp [ha', hl, asAddr]
theorem results_cell_tmp {P : Program} {fn : Func} {tmps : Array Value} {w : World} {a k : Tmp} {t : TypeId} {ad : Addr} {v : Value} (hf : fn.results = #[.cell a t, .tmp k]) (ha : tmps.getD a undef = .pointer (some ad)) (hl : (loadVar t ad).run P w = .ok v w) :
    (results fn tmps).run P w = .ok (.tuple #[v, tmps.getD k undef]) w := by
  have ha' : tmps[a]?.getD undef = .pointer (some ad) := by rw [← ha]; simp
  unfold results
  rw [hf]
  simp [ha', hl, asAddr]
end Go.Proofs.YtcbiidoebpkifaaGreatDoor
