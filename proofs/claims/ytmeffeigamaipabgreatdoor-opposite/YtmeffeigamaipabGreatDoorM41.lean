/- T18 T13b T14, one behind the other. -/
import Derived.Test.YtmeffeigamaipabGreatDoorM40
set_option linter.unusedVariables false
set_option linter.unusedSimpArgs false
/- retag.Match, is and get, at a pattern that is good. -/
namespace Go.Proofs.YtmeffeigamaipabGreatDoor.G
open Go.RowKit

theorem spanL_len (l : List (Int × Int)) : (spanL l).length = l.length * 2 := by
  induction l with
  | nil => rfl
  | cons x l ih =>
    have h : spanL (x :: l) = [.int .i64 x.1, .int .i64 x.2] ++ spanL l := rfl
    rw [h, List.length_append, ih]
    simp; omega
theorem spanL_plain (l : List (Int × Int)) : ∀ u ∈ spanL l, u.oneCell' = true := fun u hu => by
  simp only [spanL, List.mem_flatMap] at hu
  obtain ⟨y, _, hy⟩ := hu
  simp at hy
  rcases hy with rfl | rfl <;> rfl
set_option maxHeartbeats 2000000 in
set_option maxRecDepth 100000 in
theorem Spans_any (s : ByteArray) (mb g c base : Nat) (l : List (Int × Int)) (w : World) (ho : w.ownsRow base 90 2 (.slice (some ⟨g, 0, none⟩) l.length c) l.length (spanL l)) (hl0 : 0 < l.length) (hl : l.length ≤ 1000) :
    Calls Tryz.prog 58 #[.agg #[.string s, .slice (some ⟨g, 0, none⟩) l.length c, .map (some mb)]] w fun e w' => ∃ v, e = .returned v ∧ w'.ownsRow w.heap.size 90 2 v l.length (spanL l) ∧ Ex [] w w' := by
  obtain ⟨t0, hi, hz0, hz1, hz2⟩ := info_parts infoSpan
  have hcell := fun j u hj => own_cell (j := j) (u := u) ho hj
  have hgl : g < w.heap.size := (ho.lt g rfl).2
  obtain ⟨xs, hxs⟩ : ∃ xs, xs = spanL l := ⟨_, rfl⟩
  have hxl : xs.length = l.length * 2 := by rw [hxs]; exact spanL_len l
  have hxp : ∀ u ∈ xs, u.oneCell' = true := by rw [hxs]; exact spanL_plain l
  rw [← hxs] at hcell ⊢
  obtain ⟨n, hn⟩ : ∃ n, n = l.length := ⟨_, rfl⟩
  rw [← hn] at hxl hl hl0 ⊢
  have HN : Hid (∀ j u, xs[j]? = some u → (w.alloc (Obj.cells #[.string s, .slice (some ⟨g, 0, none⟩) n c, .map (some mb)] 122)).cell? ((⟨g, 0, none⟩ : Addr).add j) = some u) := fun j u hj => by
    have h1 := (((Ex.refl [] w).alloc (Obj.cells #[.string s, .slice (some ⟨g, 0, none⟩) n c, .map (some mb)] 122)).cell0.1 g j hgl).trans (hcell j u hj)
    rw [Addr.add_lit, Nat.zero_add]; exact h1
  have HXP := hide hxp
  have HXL := hide hxl
  clear ho hcell hxs hn hxp hxl
  go_enter Tryz.func58, Tryz.ntmps58
  go_wp2_with (at_builtin; refine wpList_append_lies _ rfl _ (.tmp 4) 86 rfl w.heap.size 90 t0 _ 2 16 Tryz.underlying86 hi hz0 hz1 hz2 rfl (by decide) (.slice none 0 0) 0 [] rfl (World.ownsRow_nil _ _ _ _) ⟨g, 0, none⟩ n c xs rfl HXL.out HN.out HXP.out hl0 (by unfold maxLen; omega) (by omega) (by simp) _ rfl ?_)
  intro g1 cap w1 hown hgrow _ _
  have HO := hide hown
  have HG : Hid (Ex [] w w1) := Ex.grown ((Ex.refl _ _).alloc _) hgrow (by simp [Value.ownBlock])
  clear hown hgrow
  go_wp2_with fail
  go_ret
  refine ⟨_, rfl, ?_, HG.out⟩
  have h1 := HO.out
  simpa using h1
set_option maxHeartbeats 2000000 in
theorem Spans_none (w : World) :
    Calls Tryz.prog 58 #[.agg #[.string ⟨#[]⟩, .slice none 0 0, .map none]] w fun e w' => e = .returned (.slice none 0 0) ∧ Ex [] w w' := by
  go_enter Tryz.func58, Tryz.ntmps58
  go_wp2_with fail
  go_ret
  exact ⟨rfl, (Ex.refl _ _).alloc _⟩

/-- What retag.Match answers at a pattern that is good. -/
def RMPost (w : World) (s : ByteArray) (ng : Nat) (m : Option (List Int)) (e : Ending) (w' : World) : Prop := match m with
  | some sl => ∃ v, e = .returned (.tuple #[v, .bool true, .int .i64 0, .int .i64 0]) ∧ w'.ownsRow w.heap.size 90 2 v (ng + 1) (spanL (spansM s.size sl ng))
  | none => e = .returned (.tuple #[.slice none 0 0, .bool false, .int .i64 0, .int .i64 0])
set_option maxHeartbeats 2000000 in
set_option maxRecDepth 100000 in
theorem RMatch_any (t s : ByteArray) (x : EV) (w : World) (hev : w.cell? ⟨1, 0, none⟩ = some (.iface x.1 x.2)) (hp : goodP t = true) (hg : GL w) (hs : s.size ≤ 9223372036854775807) :
    Calls Tryz.prog 36 #[.string t, .string s] w fun e w' => RMPost w s (patN t) (matchM (patC t) s) e w' ∧ Ex [] w w' := by
  have KR := hide (readsP hev hp w (Ex.refl _ _))
  have HG := hide hg
  have hf := fit_of hp
  have HF := hide hf
  obtain ⟨m, hm⟩ : ∃ m, m = matchM (patC t) s := ⟨_, rfl⟩
  rw [← hm]
  have HM := hide hm
  obtain ⟨ng, hng⟩ : ∃ ng, ng = patN t := ⟨_, rfl⟩
  rw [← hng] at KR HF ⊢
  have hng5 := hf.ng5
  rw [← hng] at hng5
  clear hev hp hg hf hm hng
  go_enter Tryz.func36, Tryz.ntmps36
  go_wp2_with fail
  refine KR.out.mono ?_
  rintro e w1 ⟨q, rfl, hpg, hx1⟩
  have KM := hide (Match_any q w.heap.size (patC t) ng (patM t) s w1 hpg HF.out.ok HF.out.tk HF.out.le HF.out.pos HF.out.ng5 hs (HG.out.ex hx1))
  rw [← HM.out] at KM
  have HX1 := hide hx1
  have hz1 := hx1.size
  clear hpg hx1
  go_wp2_with fail
  refine KM.out.mono ?_
  rintro e w2 ⟨hpost, hx2⟩
  have HX2 := hide hx2
  have hz2 := hx2.size
  clear hx2
  cases m with
  | none =>
    obtain rfl := hpost
    go_wp2_with fail
    refine (Spans_none _).mono ?_
    rintro e w3 ⟨rfl, hx3⟩
    have HX3 := hide hx3
    clear hx3
    go_wp2_with fail
    refine bodyPost_ret (v := .tuple #[.slice none 0 0, .bool false, .int .i64 0, .int .i64 0]) (by simp [results, Tryz.results36, go_sem]) rfl ⟨rfl, ?_⟩
    exact HX1.out.trans (HX2.out.trans (((Ex.refl _ _).alloc _).trans HX3.out))
  | some sl =>
    obtain ⟨v, mb, rfl, ho, _, _⟩ := hpost
    obtain ⟨g, c, rfl, hgb, hgl, hgc, _, _⟩ := own_cells ho (by omega)
    have hl := spansM_len s.size sl ng
    have KS := hide (fun o => Spans_any s mb g c w1.heap.size (spansM s.size sl ng) (w2.alloc o) (by rw [hl]; exact ho.alloc o) (by omega) (by omega))
    rw [hl] at KS
    unfold foundV
    clear ho
    go_wp2_with fail
    refine (KS.out _).mono ?_
    rintro e w3 ⟨v3, rfl, ho3, hx3⟩
    have HX3 := hide hx3
    have HO := hide ho3
    have hz3 := hx3.size
    simp only [World.size_alloc] at hz3
    clear hx3 ho3
    go_wp2_with fail
    refine bodyPost_ret (v := .tuple #[v3, .bool true, .int .i64 0, .int .i64 0]) (by simp [results, Tryz.results36, go_sem]) rfl ⟨⟨v3, rfl, own_base HO.out (by simp; omega)⟩, ?_⟩
    exact HX1.out.trans (HX2.out.trans (((Ex.refl _ _).alloc _).trans HX3.out))

set_option maxHeartbeats 2000000 in
set_option maxRecDepth 100000 in
theorem is_any (t s : ByteArray) (x : EV) (w : World) (hev : w.cell? ⟨1, 0, none⟩ = some (.iface x.1 x.2)) (hp : goodP t = true) (hg : GL w) (hs : s.size ≤ 9223372036854775807) :
    Calls Tryz.prog 21 #[.string t, .string s] w fun e w' => e = .returned (.tuple #[.bool (matchM (patC t) s).isSome, .bool true]) ∧ Ex [] w w' := by
  have KR := hide (RMatch_any t s x w hev hp hg hs)
  obtain ⟨m, hm⟩ : ∃ m, m = matchM (patC t) s := ⟨_, rfl⟩
  rw [← hm] at KR ⊢
  clear hev hp hg hm
  go_enter Tryz.func21, Tryz.ntmps21
  go_wp2_with fail
  refine KR.out.mono ?_
  rintro e w1 ⟨hpost, hx1⟩
  have HX1 := hide hx1
  clear hx1
  cases m with
  | none =>
    obtain rfl := hpost
    go_wp2_with fail
    go_ret2
    exact ⟨rfl, HX1.out⟩
  | some sl =>
    obtain ⟨v, rfl, ho⟩ := hpost
    obtain ⟨g, c, rfl, hgb, hgl, hgc, hcell, _⟩ := own_cells ho (by omega)
    have j0 : w1.cell? ⟨g, 0, none⟩ = some (.int .i64 0) := by rw [hcell 0 (by omega)]; rfl
    have j1 : w1.cell? ⟨g, 1, none⟩ = some (.int .i64 s.size) := by rw [hcell 1 (by omega)]; rfl
    obtain ⟨n, hn⟩ : ∃ n, n = patN t + 1 := ⟨_, rfl⟩
    have hn0 : ¬ ((n : Int) = 0) := by omega
    have hn1 : ((n : Int) == 0) = false := by rw [beq_eq_false_iff_ne]; exact hn0
    have hn2 : (0 : Int) < (n : Int) := by omega
    rw [← hn]
    clear ho hcell hn
    go_wp2_with fail
    go_ret2
    exact ⟨rfl, HX1.out⟩
end Go.Proofs.YtmeffeigamaipabGreatDoor.G

/- Slices that are handed in: they may begin anywhere in their block. -/
namespace Go.Proofs.YtmeffeigamaipabGreatDoor.G
open Go.RowKit

/-- Strings that lie behind an address. -/
def SSo (w : World) (p : Option Addr) (ss : List ByteArray) : Prop := ∀ (j : Nat) (s : ByteArray), ss[j]? = some s → ∃ b o, p = some ⟨b, o, none⟩ ∧ b < w.heap.size ∧ w.cell? ⟨b, o + j, none⟩ = some (.string s)
/-- Labels that lie behind an address. -/
def SLo (w : World) (p : Option Addr) (ls : List Lab) : Prop := ∀ (j : Nat) (l : Lab), ls[j]? = some l → ∃ b o, p = some ⟨b, o, none⟩ ∧ b < w.heap.size ∧ w.cell? ⟨b, o + j * 2, none⟩ = some (.string l.1) ∧ w.cell? ⟨b, o + j * 2 + 1, none⟩ = some (.string l.2)
theorem SSo.ex {w w' : World} {p : Option Addr} {ss : List ByteArray} {o : List Nat} (h : SSo w p ss) (hx : Ex o w w') (hn : ∀ y ∈ o, w.heap.size ≤ y) : SSo w' p ss := fun j s hs => by
  obtain ⟨b, off, h1, h2, h3⟩ := h j s hs
  exact ⟨b, off, h1, Nat.lt_of_lt_of_le h2 hx.size, (hx.cell.1 b _ h2 (fun hb => by have := hn b hb; omega)).trans h3⟩
theorem SLo.ex {w w' : World} {p : Option Addr} {ls : List Lab} (h : SLo w p ls) (hx : Ex [] w w') : SLo w' p ls := fun j l hl => by
  obtain ⟨b, off, h1, h2, h3, h4⟩ := h j l hl
  exact ⟨b, off, h1, Nat.lt_of_lt_of_le h2 hx.size, (hx.cell0.1 b _ h2).trans h3, (hx.cell0.1 b _ h2).trans h4⟩
end Go.Proofs.YtmeffeigamaipabGreatDoor.G

/- The statements' own labels: names of some, values that are short. -/
namespace Go.Proofs.YtmeffeigamaipabGreatDoor.G
open Go.RowKit

/-- Labels such as there may be, eight at the most. -/
def LabsOK (ls : List Lab) : Prop := ls.length ≤ 8 ∧ ls.any wrongB = false
set_option maxHeartbeats 4000000 in
set_option maxRecDepth 100000 in
theorem labels_any (p : Option Addr) (c : Nat) (rl : List Lab) (w : World) (hv : SLo w p rl) (hn : rl.length ≤ 9223372036854775807) (hz : ∀ l ∈ rl, l.1.size ≤ 9223372036854775807 ∧ l.2.size ≤ 9223372036854775807) :
    Calls Tryz.prog 13 #[.slice p rl.length c] w fun x w' => ∃ v' ls, x = .returned v' ∧ LabsOK ls ∧ w'.ownsRow w.heap.size 48 2 v' ls.length (cellsOfL ls) ∧ Ex [] w w' := by
  obtain ⟨t0, hti, hzz0, hzz1, hzz2⟩ := info_parts infoLab
  have HV := hide hv
  have HZ := hide hz
  obtain ⟨n, hnn⟩ : ∃ n, n = rl.length := ⟨_, rfl⟩
  have HNN := hide hnn
  rw [← hnn] at hn ⊢
  clear hv hz hnn
  go_enter Tryz.func13, Tryz.ntmps13
  go_wp2_with fail
  go_loopg [3, 4] (min n 8) (fun gk s3 i4 wr => ∃ (j : Nat) (ls : List Lab), j + gk = min n 8 ∧ i4 = .int .i64 j ∧ ls.length = j ∧ ls.any wrongB = false ∧ wr.ownsRow w.heap.size 48 2 s3 ls.length (cellsOfL ls) ∧ Ex [] w wr)
  case atStart => exact ⟨0, [], by omega, rfl, rfl, rfl, World.ownsRow_nil _ _ _ _, Ex.refl _ _⟩
  case round =>
    obtain ⟨j, ls, hj, rfl, hlj, hlw, hown, hx⟩ := hrel
    have HO := hide hown
    have HX := hide hx
    have HLW := hide hlw
    have hwz := hx.size
    rw [hlj] at hown
    obtain ⟨p3, c3, rfl⟩ := own_slice hown
    have HLJ := hide hlj
    cases gk with
    | zero =>
      clear hown hx hlw
      by_cases h8 : j < n
      · have h1 : (j : Int) < (n : Int) := by omega
        have h2 : ¬ ((j : Int) < 8) := by omega
        clear hlj
        go_wp2_with fail
        go_ret
        exact ⟨_, rfl, ls, ⟨by have := HLJ.out; omega, HLW.out⟩, HO.out, HX.out⟩
      · have h1 : ¬ ((j : Int) < (n : Int)) := by omega
        clear hlj
        go_wp2_with fail
        go_ret
        exact ⟨_, rfl, ls, ⟨by have := HLJ.out; omega, HLW.out⟩, HO.out, HX.out⟩
    | succ g =>
      have h1 : (j : Int) < (n : Int) := by omega
      have h2 : (j : Int) < 8 := by omega
      have hjl : j < rl.length := by rw [← HNN.out]; omega
      obtain ⟨l, hl⟩ : ∃ l, rl[j]? = some l := ⟨_, List.getElem?_eq_getElem hjl⟩
      obtain ⟨b, off, hpb, hbw, hb, c0, c1⟩ : ∃ b off, p = some ⟨b, off, none⟩ ∧ b < w.heap.size ∧ b < wr.heap.size ∧ wr.cell? ⟨b, off + j * 2, none⟩ = some (.string l.1) ∧ wr.cell? ⟨b, off + j * 2 + 1, none⟩ = some (.string l.2) := by
        obtain ⟨b, off, e1, hb, h3, h4⟩ := HV.out j l hl
        exact ⟨b, off, e1, hb, Nat.lt_of_lt_of_le hb hx.size, by rw [hx.cell0.1 b _ hb]; exact h3, by rw [hx.cell0.1 b _ hb]; exact h4⟩
      subst hpb
      have hlz := HZ.out l (List.mem_of_getElem? hl)
      obtain ⟨l1, l2⟩ := l
      dsimp only at c0 c1 hlz
      have KN := hide (fun (w' : World) => name_any (l1.size : Int) w' ⟨by omega, by omega⟩)
      have KS := hide (fun (w' : World) => short_any l2 40 w' hlz.2 (by omega))
      have HO' := hide hown
      obtain ⟨xs, hxs⟩ : ∃ xs, xs = cellsOfL ls := ⟨_, rfl⟩
      have HXS := hide hxs
      rw [← hxs] at HO'
      clear hown hx hlw hl hlj hxs
      go_wp2_with fail
      go_region_held3 (fun w' => w'.cell? ⟨b, off + j * 2, none⟩ = some (.string l1) ∧ w'.cell? ⟨b, off + j * 2 + 1, none⟩ = some (.string l2))
        (first | exact ⟨r0, r1⟩ | exact ⟨e0 _, e1 _⟩ | exact ⟨d0, d1⟩ | exact ⟨c0, c1⟩)
        (first
          | (go_at_call 24; refine (KN.out _).mono ?_; rintro e w1 ⟨s1, rfl, hs1, hx1⟩; have d0 := (hx1.cell0.1 b (off + j * 2) (show b < wr.heap.size from hb)).trans c0; have d1 := (hx1.cell0.1 b (off + j * 2 + 1) (show b < wr.heap.size from hb)).trans c1; have hzA : wr.heap.size ≤ w1.heap.size := hx1.size; have HN : Hid (∀ (s2 : ByteArray) (i : Nat) (u : Value), [Value.string s1, .string s2][i]? = some u → (w1.alloc (Obj.cells #[.string s1, .string s2] 48)).cell? ((⟨w1.heap.size, 0, none⟩ : Addr).add i) = some u) := (fun s2 => cells_new _ _ _))
          | (go_at_call 23; refine (KS.out _).mono ?_; rintro e w2 ⟨s2, rfl, hs2, rfl⟩; have hb2 : b < w2.heap.size := (by omega); have e0 : ∀ o, (w2.alloc o).cell? ⟨b, off + j * 2, none⟩ = some (.string l1) := (fun o => (((Ex.refl [] w2).alloc o).cell0.1 b (off + j * 2) hb2).trans d0); have e1 : ∀ o, (w2.alloc o).cell? ⟨b, off + j * 2 + 1, none⟩ = some (.string l2) := (fun o => (((Ex.refl [] w2).alloc o).cell0.1 b (off + j * 2 + 1) hb2).trans d1))
          | (refine step_append_lies _ rfl (.tmp 15) (.tmp 30) 23 rfl w.heap.size 48 t0 _ 2 32 Tryz.underlying23 hti hzz0 hzz1 hzz2 rfl (by decide) (.slice p3 j c3) j xs (by simp [Act.eval, Act.put]) ((own_ex (World.ownsRow.drew HO'.out) hx1 (by simp)).alloc _) ⟨w2.heap.size, 0, none⟩ 1 1 [.string s1, .string s2] (by simp [Act.eval, Act.put]) rfl (HN.out s2) (by simp [Value.oneCell']) (by decide) (by unfold maxLen; omega) (by omega) (by simp; omega) _ rfl ?_; intro g0 cap w5 hown5 hgrow hat hlt5; have hgr : Ex (Value.slice p3 j c3).ownBlock.toList w2 w5 := Ex.grown ((Ex.refl _ _).alloc _) hgrow (fun k hk => Or.inl (by simpa using hk)); have hrow : ∀ k, (Value.slice p3 j c3).ownBlock = some k → w.heap.size ≤ k := (fun k hk => own_block HO'.out k hk); have r0 := (hgr.cell.1 b (off + j * 2) hb2 (fun hm => by have := hrow b (by simpa using hm); omega)).trans d0; have r1 := (hgr.cell.1 b (off + j * 2 + 1) hb2 (fun hm => by have := hrow b (by simpa using hm); omega)).trans d1))
      have HO5 := hide hown5
      have HX5 := hide (((HX.out.drew.trans hx1).drop (by simp)).trans hgr)
      have HS1 := hide hs1
      have HS2 := hide hs2
      have HROW := hide hrow
      clear hown5 hgrow hat hgr hx1 hs1 hs2 hrow r0 r1 e0 e1 d0 d1 c0 c1
      go_wp2_with fail
      go_roundg g
      case measure => omega
      case rel =>
        refine ⟨j + 1, ls ++ [(s1, s2)], by omega, by simp, by simp [HLJ.out], ?_, ?_, HX5.out.drop (fun x hx hlt => by have := HROW.out x (by simpa using hx); omega)⟩
        · rw [List.any_append, HLW.out]
          have h9 := HS2.out
          simp [wrongB, HS1.out]
          omega
        · have h9 := HO5.out
          rw [HXS.out, cells_snoc ls (s1, s2)] at h9
          rw [List.length_append, HLJ.out]
          exact h9
end Go.Proofs.YtmeffeigamaipabGreatDoor.G
