/- Z2 T16 Z3 T18 X4, one behind the other. -/
import Derived.Test.YtcbiidoebpkifaaGreatDoorM41
import Derived.Deep.DeepCutAuto
import Derived.Test.YtcbiidoebpkifaaGreatDoorM36
import Derived.Test.YtcbiidoebpkifaaGreatDoorM40
set_option linter.unusedVariables false
set_option linter.unusedSimpArgs false
/- The statements' own lists of rules. -/
namespace Go.Proofs.YtcbiidoebpkifaaGreatDoor.G
open Go.RowKit

theorem infoARule : (Tryz.prog.info? 65).map (fun i => (i.zero, i.size, i.bytes)) = some (some (.agg #[.int .i64 0, .slice none 0 0, .string ⟨#[]⟩, .string ⟨#[]⟩, .string ⟨#[]⟩, .string ⟨#[]⟩, .int .u64 0]), 7, 104) := by kernel_rfl
structure RawR (w : World) (r : AR) : Prop where
  ac : -9223372036854775808 ≤ r.act ∧ r.act ≤ 9223372036854775807
  ss : ∃ ss : List ByteArray, r.n = ss.length ∧ SSo w r.p ss ∧ ss.length ≤ 9223372036854775807 ∧ ∀ s ∈ ss, s.size ≤ 9223372036854775807
  se : r.se.size ≤ 9223372036854775807
  re : r.re.size ≤ 9223372036854775807
  ta : r.ta.size ≤ 9223372036854775807
  rp : r.rp.size ≤ 9223372036854775807
  mo : 0 ≤ r.mo ∧ r.mo < 18446744073709551616
theorem RawR.ex {w w' : World} {r : AR} (h : RawR w r) (hx : Ex [] w w') : RawR w' r := by
  obtain ⟨ss, h1, h2, h3, h4⟩ := h.ss
  exact ⟨h.ac, ⟨ss, h1, h2.ex hx (by simp), h3, h4⟩, h.se, h.re, h.ta, h.rp, h.mo⟩
def RLo (w : World) (p : Option Addr) (rl : List AR) : Prop := ∀ i r, rl[i]? = some r → (∃ b off, p = some ⟨b, off, none⟩ ∧ b < w.heap.size ∧ ∀ o, o < 7 → w.cell? ⟨b, off + i * 7 + o, none⟩ = r.cells[o]?) ∧ RawR w r
def RuleR (w : World) (r : AR) : Prop := ∃ (k : Nat) (ss : List ByteArray), r.act = (k : Int) ∧ r.n = ss.length ∧ RuleK w k r.p r.c ss r.se r.re r.ta r.rp r.mo
theorem RuleK.ex {w w' : World} {k : Nat} {p : Option Addr} {c : Nat} {ss : List ByteArray} {se re ta rp : ByteArray} {mo : Int} (h : RuleK w k p c ss se re ta rp mo) (hx : Ex [] w w') : RuleK w' k p c ss se re ta rp mo :=
  ⟨h.k10, h.row.ex0 hx, h.len, h.nam, h.sep, h.src, h.pat, h.tgt, h.rep, h.mod⟩
theorem RuleR.ex {w w' : World} {r : AR} (h : RuleR w r) (hx : Ex [] w w') : RuleR w' r := by
  obtain ⟨k, ss, h1, h2, h3⟩ := h
  exact ⟨k, ss, h1, h2, h3.ex hx⟩
theorem SS.grow {w w' : World} {v : Value} {ss : List ByteArray} {o : List Nat} (h : SS w v ss) (hx : Ex o w w') (hn : ∀ b, b ∈ o → v.ownBlock = some b → ss = []) : SS w' v ss := by
  rcases h with h | ⟨b, c, rfl, hb, hc⟩
  · exact .inl h
  · refine .inr ⟨b, c, rfl, Nat.lt_of_lt_of_le hb hx.size, fun j s hj => ?_⟩
    rw [World.cell?_of_block (hx.block b hb (fun hm => by rw [hn b hm rfl] at hj; simp at hj))]
    exact hc j s hj
def cellsR (rs : List AR) : List Value := rs.flatMap AR.cells
theorem cellsR_at (rs : List AR) (i o : Nat) (r : AR) (h : rs[i]? = some r) (ho : o < 7) : (cellsR rs)[i * 7 + o]? = r.cells[o]? := by
  induction rs generalizing i with
  | nil => simp at h
  | cons x rs ih =>
    have e : cellsR (x :: rs) = x.cells ++ cellsR rs := rfl
    have hl : x.cells.length = 7 := rfl
    rw [e]
    cases i with
    | zero => simp at h; subst h; rw [List.getElem?_append_left (by omega)]; simp
    | succ i => rw [List.getElem?_append_right (by omega), hl, show (i + 1) * 7 + o - 7 = i * 7 + o by omega]; exact ih i (by simpa using h)

theorem RuleR.grow {w w' : World} {r : AR} {rs : List AR} {v : Value} {base : Nat} (h : RuleR w r) (hm : r ∈ rs) (ho : w.ownsRow base 65 7 v rs.length (cellsR rs)) (hx : Ex v.ownBlock.toList w w') : RuleR w' r := by
  obtain ⟨k, ss, h1, h2, h3⟩ := h
  have hrow : SS w' (.slice r.p ss.length r.c) ss := by
    refine SS.grow h3.row hx (fun b hb hs => ?_)
    cases hss : ss with
    | nil => rfl
    | cons s0 t =>
      exfalso
      have hpos : 0 < rs.length := List.length_pos_of_mem hm
      obtain ⟨g, cap, rfl, _, _, _, hc, _⟩ := own_cells ho hpos
      obtain rfl : g = b := by
        have : (Value.slice (some ⟨g, 0, none⟩) rs.length cap).ownBlock = some g := rfl
        rw [this] at hb
        simp at hb
        exact hb.symm
      obtain ⟨r0, hr0⟩ : ∃ r0, rs[0]? = some r0 := ⟨_, List.getElem?_eq_getElem hpos⟩
      have e1 := hc 0 (by omega)
      rw [show (0 : Nat) = 0 * 7 + 0 by rfl, cellsR_at rs 0 0 r0 hr0 (by omega)] at e1
      rcases h3.row with ⟨_, hn⟩ | ⟨b2, c2, e2, _, hcc⟩
      · rw [hn] at hss; cases hss
      · injection e2 with e3 e4 e5
        rw [e3] at hs
        have : b2 = g := by simpa [Value.ownBlock] using hs
        subst this
        have e6 := hcc 0 s0 (by rw [hss]; rfl)
        rw [show (0 : Nat) * 7 + 0 = 0 by rfl] at e1
        rw [e6] at e1
        simp [AR.cells] at e1
  exact ⟨k, ss, h1, h2, ⟨h3.k10, hrow, h3.len, h3.nam, h3.sep, h3.src, h3.pat, h3.tgt, h3.rep, h3.mod⟩⟩
set_option maxHeartbeats 4000000 in
set_option maxRecDepth 100000 in
theorem rules_any (p : Option Addr) (c : Nat) (rl : List AR) (w : World) (hv : RLo w p rl) (hn : rl.length ≤ 9223372036854775807) :
    Calls Tryz.prog 11 #[.slice p rl.length c] w fun x w' => ∃ v' rs, x = .returned v' ∧ rs.length ≤ 6 ∧ (∀ r ∈ rs, RuleR w' r) ∧ w'.ownsRow w.heap.size 65 7 v' rs.length (cellsR rs) ∧ Ex [] w w' := by
  obtain ⟨t0, hti, hzz0, hzz1, hzz2⟩ := info_parts infoARule
  have HV := hide hv
  obtain ⟨n, hnn⟩ : ∃ n, n = rl.length := ⟨_, rfl⟩
  have HNN := hide hnn
  rw [← hnn] at hn ⊢
  clear hv hnn
  go_enter Tryz.func11, Tryz.ntmps11
  go_wp2_with fail
  go_loopg [3, 4] (min n 6) (fun gk s3 i4 wr => ∃ (j : Nat) (rs : List AR), j + gk = min n 6 ∧ i4 = .int .i64 j ∧ rs.length = j ∧ (∀ r ∈ rs, RuleR wr r) ∧ wr.ownsRow w.heap.size 65 7 s3 rs.length (cellsR rs) ∧ Ex [] w wr)
  case atStart => exact ⟨0, [], by omega, rfl, rfl, fun _ h => by simp at h, World.ownsRow_nil _ _ _ _, Ex.refl _ _⟩
  case round =>
    obtain ⟨j, rs, hj, rfl, hlj, hlw, hown, hx⟩ := hrel
    have HO := hide hown
    have HX := hide hx
    have HLW := hide hlw
    have hwz := hx.size
    rw [hlj] at hown
    obtain ⟨p3, c3, rfl⟩ := own_slice hown
    have HLJ := hide hlj
    cases gk with
    | zero =>
      clear hown hx hlw
      by_cases h8 : j < n
      case' pos =>
        have h1 : (j : Int) < (n : Int) := by omega
        have h2 : ¬ ((j : Int) < 6) := by omega
      case' neg =>
        have h1 : ¬ ((j : Int) < (n : Int)) := by omega
      all_goals
        clear hlj
        go_wp2_with fail
        go_ret
        exact ⟨_, rfl, rs, by have := HLJ.out; omega, HLW.out, HO.out, HX.out⟩
    | succ g =>
      have h1 : (j : Int) < (n : Int) := by omega
      have h2 : (j : Int) < 6 := by omega
      have hjl : j < rl.length := by rw [← HNN.out]; omega
      obtain ⟨r, hr⟩ : ∃ r, rl[j]? = some r := ⟨_, List.getElem?_eq_getElem hjl⟩
      obtain ⟨⟨b, off, hpb, hbw, hc⟩, hraw⟩ := HV.out j r hr
      have hrc : ∀ o, o < 7 → wr.cell? ⟨b, off + j * 7 + o, none⟩ = r.cells[o]? := fun o ho => (hx.cell0.1 b _ hbw).trans (hc o ho)
      have hb : b < wr.heap.size := by omega
      subst hpb
      have hraw2 := hraw.ex hx
      obtain ⟨ss, hn1, hn2, hn3, hn4⟩ := hraw2.ss
      have KR := hide (fun (w' : World) (hx' : Ex [] wr w') => rule_any r.act r.p r.c ss r.se r.re r.ta r.rp r.mo w' hraw2.ac (hn2.ex hx' (by simp)) hn3 hn4 hraw2.se hraw2.ta hraw2.re hraw2.rp hraw2.mo)
      rw [← hn1] at KR
      obtain ⟨act, rp0, rn, rc, se, re, ta, rp, mo⟩ := r
      unfold AR.cells at hrc
      unfold ruleV at KR
      dsimp only at KR hrc
      have d0 : wr.cell? ⟨b, off + j * 7, none⟩ = some (.int .i64 act) := hrc 0 (by omega)
      have d1 : wr.cell? ⟨b, off + j * 7 + 1, none⟩ = some (.slice rp0 rn rc) := hrc 1 (by omega)
      have d2 : wr.cell? ⟨b, off + j * 7 + 2, none⟩ = some (.string se) := hrc 2 (by omega)
      have d3 : wr.cell? ⟨b, off + j * 7 + 3, none⟩ = some (.string re) := hrc 3 (by omega)
      have d4 : wr.cell? ⟨b, off + j * 7 + 4, none⟩ = some (.string ta) := hrc 4 (by omega)
      have d5 : wr.cell? ⟨b, off + j * 7 + 5, none⟩ = some (.string rp) := hrc 5 (by omega)
      have d6 : wr.cell? ⟨b, off + j * 7 + 6, none⟩ = some (.int .u64 mo) := hrc 6 (by omega)
      have HO' := hide hown
      obtain ⟨xs, hxs⟩ : ∃ xs, xs = cellsR rs := ⟨_, rfl⟩
      have HXS := hide hxs
      rw [← hxs] at HO'
      clear hown hx hlw hr hlj hxs hc hraw hraw2 hn1 hn2 hn3 hn4 hrc
      go_wp2_with fail
      refine (KR.out _ (Ex.refl _ _)).mono ?_
      rintro x w2 ⟨k, p2, c2, ss2, se2, re2, ta2, rp2, mo2, rfl, hrk, hrow2, hx2⟩
      have HRK := hide hrk
      have HR2 := hide hrow2
      have HX2 := hide hx2
      have hz2 := hx2.size
      obtain ⟨n2, hn2⟩ : ∃ n2, n2 = ss2.length := ⟨_, rfl⟩
      have HN2 := hide hn2
      rw [← hn2]
      clear hrk hrow2 hx2 d0 d1 d2 d3 d4 d5 d6 hn2
      obtain ⟨w3, hw3⟩ : ∃ w3, w3 = w2.alloc (Obj.cells #[.int .i64 (k : Int), .slice p2 n2 c2, .string se2, .string re2, .string ta2, .string rp2, .int .u64 mo2] 65) := ⟨_, rfl⟩
      have hx3 : Ex [] w2 w3 := by rw [hw3]; exact (Ex.refl _ _).alloc _
      have hb3 : BK w3 w2.heap.size (.cells #[.int .i64 (k : Int), .slice p2 n2 c2, .string se2, .string re2, .string ta2, .string rp2, .int .u64 mo2] 65 (0, 0)) := by rw [hw3]; exact BK.new _ _
      have HX3 := hide (HX2.out.trans hx3)
      have HX3w := hide hx3
      have HW3 := hide hw3
      have hz3 := hx3.size
      obtain ⟨hc3, hf3⟩ := hb3.all
      have hl3 := hb3.lt
      clear hw3 hx3 hb3
      go_upto_region 6 with fail
      rw [← HW3.out]
      go_wp2_with (at_builtin; refine wpList_append_lies _ rfl (.tmp 21) (.tmp 23) 31 rfl w.heap.size 65 t0 _ 7 104 Tryz.underlying31 hti hzz0 hzz1 hzz2 rfl (by decide) (.slice p3 j c3) j xs rfl ((own_ex HO'.out HX3.out (by simp)).alloc _) ⟨w3.heap.size, 0, none⟩ 1 1 [.int .i64 (k : Int), .slice p2 n2 c2, .string se2, .string re2, .string ta2, .string rp2, .int .u64 mo2] rfl rfl (cells_new _ _ _) (by simp [Value.oneCell']) (by decide) (by unfold maxLen; omega) (by omega) (by simp; omega) (w3.heap.size + 1) (by simp) ?_)
      intro gb cap w5 hown5 hgrow hcase hlt5
      have hrow : ∀ y, (Value.slice p3 j c3).ownBlock = some y → w.heap.size ≤ y := fun y hy => own_block HO'.out y hy
      have hgr : Ex (Value.slice p3 j c3).ownBlock.toList w3 w5 := Ex.grown ((Ex.refl _ _).alloc _) hgrow (fun y hy => Or.inl (by simpa using hy))
      have HO5 := hide hown5
      have HGR := hide hgr
      have HX5 := hide ((HX3.out.drop (by simp)).trans hgr)
      have HROW := hide hrow
      clear hown5 hgrow hcase hgr hrow hc3 hf3
      go_wp2_with fail
      go_roundg g
      case measure => omega
      case rel =>
        have hk5 : RuleR w5 ⟨(k : Int), p2, n2, c2, se2, re2, ta2, rp2, mo2⟩ := by
          have h9 := HRK.out.ex (w' := w3) (HX3w.out)
          refine ⟨k, ss2, rfl, HN2.out, ⟨h9.k10, ?_, h9.len, h9.nam, h9.sep, h9.src, h9.pat, h9.tgt, h9.rep, h9.mod⟩⟩
          exact SS.grow h9.row HGR.out (fun y hy hs => by
            have h10 := HR2.out y hs
            have h11 := (HO'.out.lt y (by simpa using hy)).2
            omega)
        refine ⟨j + 1, rs ++ [⟨(k : Int), p2, n2, c2, se2, re2, ta2, rp2, mo2⟩], by omega, by simp, by simp [HLJ.out], fun r hr => ?_, ?_, ((HX.out.drop (by simp)).trans HX5.out).drop (fun y hy hlt => by have := HROW.out y (by simpa using hy); omega)⟩
        · rcases List.mem_append.1 hr with hr | hr
          · have ho9 := own_ex HO.out HX3.out (by simp)
            rw [HLJ.out] at ho9
            exact ((HLW.out r hr).ex HX3.out).grow hr (by rw [HLJ.out]; exact ho9) HGR.out
          · simp at hr; subst hr; exact hk5
        · have h9 := HO5.out
          rw [HXS.out] at h9
          rw [List.length_append, HLJ.out]
          have e9 : cellsR (rs ++ [⟨(k : Int), p2, n2, c2, se2, re2, ta2, rp2, mo2⟩]) = cellsR rs ++ [.int .i64 (k : Int), .slice p2 n2 c2, .string se2, .string re2, .string ta2, .string rp2, .int .u64 mo2] := by simp [cellsR, AR.cells]
          rw [e9]
          exact h9
end Go.Proofs.YtcbiidoebpkifaaGreatDoor.G

/- Engines that are new: opened, loaded, asked once; two of them in a pair. -/
namespace Go.Proofs.YtcbiidoebpkifaaGreatDoor.G
open Go.RowKit

theorem Rules.up {lo hi hi' : Nat} {w : World} {rv : Value} {Fs : List (List Lab → List Lab × Bool)} (h : Rules lo hi w rv Fs) (hh : hi ≤ hi') (hw : hi' ≤ w.heap.size) : Rules lo hi' w rv Fs := by
  rcases h with h | ⟨gb, cap, h1, h2, h3, h4, h5⟩
  · exact .inl h
  · refine .inr ⟨gb, cap, h1, h2, by omega, hw, fun i F hi => ?_⟩
    obtain ⟨fv, l, h, h6, h7, h8, h9⟩ := h5 i F hi
    exact ⟨fv, l, h, h6, h7, by omega, h9⟩
structure FE (w : World) (e m mb room lo : Nat) (Fs : List (List Lab → List Lab × Bool)) : Prop where
  ex : ∃ rv clk, EN (RF Fs) w e m mb w.heap.size room rv [] (.slice none 0 0) #[] clk ∧ Rules lo w.heap.size w rv Fs
  elo : e < lo
  mlo : m < lo
  mblo : mb < lo
  lle : lo ≤ w.heap.size
  fl : Fs.length ≤ 1000
theorem FE.step {w w' : World} {e m mb room lo : Nat} {Fs : List (List Lab → List Lab × Bool)} {o : List Nat} (h : FE w e m mb room lo Fs) (hx : Ex o w w') (ho : ∀ k ∈ o, k < lo ∧ k ≠ e ∧ k ≠ m ∧ k ≠ mb) : FE w' e m mb room lo Fs := by
  obtain ⟨rv, clk, hen, hr⟩ := h.ex
  have hl := h.lle
  have hz := hx.size
  have hm : MM (RF Fs) w' m mb w.heap.size room [] (.slice none 0 0) #[] clk := hen.mem.ex hx (fun k hk => by have := ho k hk; exact ⟨by omega, by omega, by omega⟩)
  have hb := hen.blk.ex hx (fun hk => (ho e hk).2.1 rfl)
  refine ⟨⟨rv, clk, ⟨hb, hm.bare, hb.lt, hen.nem, hen.nemb⟩, ?_⟩, h.elo, h.mlo, h.mblo, by omega, h.fl⟩
  exact (hr.kb (KB.ofEx hx (fun k hk => Or.inl (ho k hk).1) (Nat.le_refl _))).up hz (Nat.le_refl _)
theorem relabel_fe (e m mb room lo : Nat) (Fs : List (List Lab → List Lab × Bool)) (v : Value) (ls : List Lab) (w : World) (he : FE w e m mb room lo Fs) (hg : GL w) (hv : SL w v ls) (hn : ls.length ≤ 20) (hw : ls.any wrongB = false) :
    Calls Tryz.prog 13 #[.pointer (some ⟨e, 0, none⟩), v] w fun x w' => ∃ v', x = .returned (.tuple #[v', .bool (runF Fs (bareL ls)).2, .int .i64 0]) ∧ (runF Fs (bareL ls)).1.length ≤ 60 ∧
      w'.ownsRow w.heap.size 42 2 v' (runF Fs (bareL ls)).1.length (cellsOfL (runF Fs (bareL ls)).1) ∧ Ex [m, mb] w w' := by
  obtain ⟨rv, clk, hen, hr⟩ := he.ex
  refine (relabel_eg e m mb w.heap.size room lo Fs [] v ls w ⟨⟨rv, _, _, clk, hen, hr⟩, Nat.le_refl _, he.elo, he.mlo, he.mblo, he.fl⟩ hg hv hn hw).mono ?_
  rintro x w' ⟨v', h1, h2, h3, _, h5⟩
  exact ⟨v', h1, h2, h3, h5.toEx⟩
theorem open_fe (c : Int) (w : World) : Calls Tryz.prog 12 #[.int .i64 c] w fun x w' => ∃ e m mb, x = .returned (.pointer (some ⟨e, 0, none⟩)) ∧ FE w' e m mb (roomOf c) w'.heap.size [] ∧ w.heap.size ≤ e ∧ w.heap.size ≤ m ∧ w.heap.size ≤ mb ∧ Ex [] w w' := by
  refine (open_any (RF []) c w).mono ?_
  rintro x w' ⟨e, m, mb, h1, h2, h3, h4, h5, h6⟩
  exact ⟨e, m, mb, h1, ⟨⟨_, _, h2, .inl ⟨rfl, rfl⟩⟩, h2.lt, h2.mem.mlt, h2.mem.mblt, Nat.le_refl _, by simp⟩, h4, h5, h6, h3⟩

set_option maxHeartbeats 2000000 in
set_option maxRecDepth 100000 in
theorem engine_fe (c : Int) (v : Value) (rs : List AR) (Fs : List (List Lab → List Lab × Bool)) (w : World) (hv : AL w v rs) (hn : rs.length ≤ 12) (hlen : Fs.length = rs.length) (hmk : ∀ (i : Nat) r F, rs[i]? = some r → Fs[i]? = some F → Makes w r F) :
    Calls Tryz.prog 10 #[.int .i64 c, v] w fun x w' => ∃ e m mb lo, x = .returned (.pointer (some ⟨e, 0, none⟩)) ∧ FE w' e m mb (roomOf c) lo Fs ∧ w.heap.size ≤ e ∧ w.heap.size ≤ m ∧ w.heap.size ≤ mb ∧ w.heap.size ≤ lo ∧ Ex [] w w' := by
  have HV := hide hv
  have HMK := hide hmk
  obtain ⟨p, cc, rfl⟩ := hv.slice
  obtain ⟨n, hnn⟩ : ∃ n, n = rs.length := ⟨_, rfl⟩
  have HNN := hide hnn
  rw [← hnn]
  clear hv hmk hnn
  go_enter Tryz.func10, Tryz.ntmps10
  go_wp2_with fail
  refine (open_any (RF []) c w).mono ?_
  rintro x w1 ⟨e, m, mb, rfl, hen, hx1, h4, h5, h6⟩
  have KL := hide (load_list (RF []) (RF Fs) e m mb w1.heap.size (roomOf c) _ _ _ _ _ (.slice p rs.length cc) rs Fs w1 hen (HV.out.ex0 hx1) hn hlen (fun i r F hr hF W hW => HMK.out i r F hr hF W (hx1.trans hW)))
  rw [← HNN.out] at KL
  have HEN := hide hen
  have HX1 := hide hx1
  clear hen hx1
  go_wp2_with fail
  refine KL.out.mono ?_
  rintro x w2 ⟨rfl, ⟨rv', hen', hr'⟩, hx2⟩
  have HEN' := hide hen'
  have HR' := hide hr'
  have HX2 := hide hx2
  clear hen' hr' hx2
  go_wp2_with fail
  go_ret
  have hz1 := HX1.out.size
  have hz2 := HX2.out.size
  refine ⟨e, m, mb, w1.heap.size, rfl, ⟨⟨rv', _, HEN'.out, HR'.out⟩, HEN.out.lt, HEN.out.mem.mlt, HEN.out.mem.mblt, hz2, by omega⟩, h4, h5, h6, hz1, ?_⟩
  exact ((HX1.out.drop (by simp)).trans HX2.out).drop (fun y hy hlt => by simp at hy; omega)
end Go.Proofs.YtcbiidoebpkifaaGreatDoor.G

/- Rules one behind the other: the first of them and then the others. -/
namespace Go.Proofs.YtcbiidoebpkifaaGreatDoor.G

def GoodF (F : List Lab → List Lab × Bool) : Prop := ∀ ls, LOK ls → LOK (F ls).1
theorem runF_false : ∀ (Fs : List (List Lab → List Lab × Bool)) (ls : List Lab), (runF Fs ls).2 = false → (runF Fs ls).1 = []
  | [], ls, h => by cases h
  | F :: Fs, ls, h => by
    unfold runF at h ⊢
    by_cases hf : (F ls).2 = true
    · rw [if_pos hf] at h ⊢; exact runF_false Fs _ h
    · rw [if_neg hf]
theorem runF_lok : ∀ (Fs : List (List Lab → List Lab × Bool)) (ls : List Lab), (∀ F ∈ Fs, GoodF F) → LOK ls → LOK (runF Fs ls).1
  | [], ls, _, h => h
  | F :: Fs, ls, hg, h => by
    unfold runF
    by_cases hf : (F ls).2 = true
    · rw [if_pos hf]
      exact runF_lok Fs _ (fun G hG => hg G (List.mem_cons_of_mem _ hG)) (hg F (List.mem_cons_self ..) ls h)
    · rw [if_neg hf]; exact LOK.nil
theorem choose_fs {rs : List AR} {w : World} (h : ∀ r ∈ rs, ∃ F, Makes w r F ∧ GoodF F) : ∃ Fs : List (List Lab → List Lab × Bool), Fs.length = rs.length ∧ (∀ (i : Nat) r F, rs[i]? = some r → Fs[i]? = some F → Makes w r F) ∧ ∀ F ∈ Fs, GoodF F := by
  induction rs with
  | nil => exact ⟨[], rfl, fun i r F h => by simp at h, fun F h => by simp at h⟩
  | cons r rs ih =>
    obtain ⟨F, h1, h2⟩ := h r (List.mem_cons_self ..)
    obtain ⟨Fs, h3, h4, h5⟩ := ih (fun r hr => h r (List.mem_cons_of_mem _ hr))
    refine ⟨F :: Fs, by simp [h3], fun i r' F' hr hF => ?_, fun G hG => ?_⟩
    · cases i with
      | zero => simp at hr hF; subst hr; subst hF; exact h1
      | succ i => exact h4 i r' F' (by simpa using hr) (by simpa using hF)
    · rcases List.mem_cons.1 hG with rfl | hG
      · exact h2
      · exact h5 G hG
end Go.Proofs.YtcbiidoebpkifaaGreatDoor.G

/- retag.Match, is and get, at a pattern that is good. -/
namespace Go.Proofs.YtcbiidoebpkifaaGreatDoor.G
open Go.RowKit

theorem spanL_len (l : List (Int × Int)) : (spanL l).length = l.length * 2 := by
  induction l with
  | nil => rfl
  | cons x l ih =>
    have h : spanL (x :: l) = [.int .i64 x.1, .int .i64 x.2] ++ spanL l := rfl
    rw [h, List.length_append, ih]
    simp; omega
theorem spanL_plain (l : List (Int × Int)) : ∀ u ∈ spanL l, u.oneCell' = true := fun u hu => by
  simp only [spanL, List.mem_flatMap] at hu
  obtain ⟨y, _, hy⟩ := hu
  simp at hy
  rcases hy with rfl | rfl <;> rfl
set_option maxHeartbeats 2000000 in
set_option maxRecDepth 100000 in
theorem Spans_any (s : ByteArray) (mb g c base : Nat) (l : List (Int × Int)) (w : World) (ho : w.ownsRow base 49 2 (.slice (some ⟨g, 0, none⟩) l.length c) l.length (spanL l)) (hl0 : 0 < l.length) (hl : l.length ≤ 1000) :
    Calls Tryz.prog 28 #[.agg #[.string s, .slice (some ⟨g, 0, none⟩) l.length c, .map (some mb)]] w fun e w' => ∃ v, e = .returned v ∧ w'.ownsRow w.heap.size 49 2 v l.length (spanL l) ∧ Ex [] w w' := by
  obtain ⟨t0, hi, hz0, hz1, hz2⟩ := info_parts infoSpan
  have hcell := fun j u hj => own_cell (j := j) (u := u) ho hj
  have hgl : g < w.heap.size := (ho.lt g rfl).2
  obtain ⟨xs, hxs⟩ : ∃ xs, xs = spanL l := ⟨_, rfl⟩
  have hxl : xs.length = l.length * 2 := by rw [hxs]; exact spanL_len l
  have hxp : ∀ u ∈ xs, u.oneCell' = true := by rw [hxs]; exact spanL_plain l
  rw [← hxs] at hcell ⊢
  obtain ⟨n, hn⟩ : ∃ n, n = l.length := ⟨_, rfl⟩
  rw [← hn] at hxl hl hl0 ⊢
  have HN : Hid (∀ j u, xs[j]? = some u → (w.alloc (Obj.cells #[.string s, .slice (some ⟨g, 0, none⟩) n c, .map (some mb)] 55)).cell? ((⟨g, 0, none⟩ : Addr).add j) = some u) := fun j u hj => by
    have h1 := (((Ex.refl [] w).alloc (Obj.cells #[.string s, .slice (some ⟨g, 0, none⟩) n c, .map (some mb)] 55)).cell0.1 g j hgl).trans (hcell j u hj)
    rw [Addr.add_lit, Nat.zero_add]; exact h1
  have HXP := hide hxp
  have HXL := hide hxl
  clear ho hcell hxs hn hxp hxl
  go_enter Tryz.func28, Tryz.ntmps28
  go_wp2_with (at_builtin; refine wpList_append_lies _ rfl _ (.tmp 4) 45 rfl w.heap.size 49 t0 _ 2 16 Tryz.underlying45 hi hz0 hz1 hz2 rfl (by decide) (.slice none 0 0) 0 [] rfl (World.ownsRow_nil _ _ _ _) ⟨g, 0, none⟩ n c xs rfl HXL.out HN.out HXP.out hl0 (by unfold maxLen; omega) (by omega) (by simp) _ rfl ?_)
  intro g1 cap w1 hown hgrow _ _
  have HO := hide hown
  have HG : Hid (Ex [] w w1) := Ex.grown ((Ex.refl _ _).alloc _) hgrow (by simp [Value.ownBlock])
  clear hown hgrow
  go_wp2_with fail
  go_ret
  refine ⟨_, rfl, ?_, HG.out⟩
  have h1 := HO.out
  simpa using h1
set_option maxHeartbeats 2000000 in
theorem Spans_none (w : World) :
    Calls Tryz.prog 28 #[.agg #[.string ⟨#[]⟩, .slice none 0 0, .map none]] w fun e w' => e = .returned (.slice none 0 0) ∧ Ex [] w w' := by
  go_enter Tryz.func28, Tryz.ntmps28
  go_wp2_with fail
  go_ret
  exact ⟨rfl, (Ex.refl _ _).alloc _⟩

def RMPost (w : World) (s : ByteArray) (ng : Nat) (m : Option (List Int)) (e : Ending) (w' : World) : Prop := match m with
  | some sl => ∃ v, e = .returned (.tuple #[v, .bool true, .int .i64 0, .int .i64 0]) ∧ w'.ownsRow w.heap.size 49 2 v (ng + 1) (spanL (spansM s.size sl ng))
  | none => e = .returned (.tuple #[.slice none 0 0, .bool false, .int .i64 0, .int .i64 0])
set_option maxHeartbeats 2000000 in
set_option maxRecDepth 100000 in
theorem RMatch_any (t s : ByteArray) (x : EV) (w : World) (hev : w.cell? ⟨0, 0, none⟩ = some (.iface x.1 x.2)) (hp : goodP t = true) (hg : GL w) (hs : s.size ≤ 9223372036854775807) :
    Calls Tryz.prog 16 #[.string t, .string s] w fun e w' => RMPost w s (patN t) (matchM (patC t) s) e w' ∧ Ex [] w w' := by
  have KR := hide (readsP hev hp w (Ex.refl _ _))
  have HG := hide hg
  have hf := fit_of hp
  have HF := hide hf
  obtain ⟨m, hm⟩ : ∃ m, m = matchM (patC t) s := ⟨_, rfl⟩
  rw [← hm]
  have HM := hide hm
  obtain ⟨ng, hng⟩ : ∃ ng, ng = patN t := ⟨_, rfl⟩
  rw [← hng] at KR HF ⊢
  have hng5 := hf.ng5
  rw [← hng] at hng5
  clear hev hp hg hf hm hng
  go_enter Tryz.func16, Tryz.ntmps16
  go_wp2_with fail
  refine KR.out.mono ?_
  rintro e w1 ⟨q, rfl, hpg, hx1⟩
  have KM := hide (Match_any q w.heap.size (patC t) ng (patM t) s w1 hpg HF.out.ok HF.out.tk HF.out.le HF.out.pos HF.out.ng5 hs (HG.out.ex hx1).1)
  rw [← HM.out] at KM
  have HX1 := hide hx1
  have hz1 := hx1.size
  clear hpg hx1
  go_wp2_with fail
  refine KM.out.mono ?_
  rintro e w2 ⟨hpost, hx2⟩
  have HX2 := hide hx2
  have hz2 := hx2.size
  clear hx2
  cases m with
  | none =>
    obtain rfl := hpost
    go_wp2_with fail
    refine (Spans_none _).mono ?_
    rintro e w3 ⟨rfl, hx3⟩
    have HX3 := hide hx3
    clear hx3
    go_wp2_with fail
    refine bodyPost_ret (v := .tuple #[.slice none 0 0, .bool false, .int .i64 0, .int .i64 0]) (by simp [results, Tryz.results16, go_sem]) rfl ⟨rfl, ?_⟩
    exact HX1.out.trans (HX2.out.trans (((Ex.refl _ _).alloc _).trans HX3.out))
  | some sl =>
    obtain ⟨v, mb, rfl, ho, _, _⟩ := hpost
    obtain ⟨g, c, rfl, hgb, hgl, hgc, _, _⟩ := own_cells ho (by omega)
    have hl := spansM_len s.size sl ng
    have KS := hide (fun o => Spans_any s mb g c w1.heap.size (spansM s.size sl ng) (w2.alloc o) (by rw [hl]; exact ho.alloc o) (by omega) (by omega))
    rw [hl] at KS
    unfold foundV
    clear ho
    go_wp2_with fail
    refine (KS.out _).mono ?_
    rintro e w3 ⟨v3, rfl, ho3, hx3⟩
    have HX3 := hide hx3
    have HO := hide ho3
    have hz3 := hx3.size
    simp only [World.size_alloc] at hz3
    clear hx3 ho3
    go_wp2_with fail
    refine bodyPost_ret (v := .tuple #[v3, .bool true, .int .i64 0, .int .i64 0]) (by simp [results, Tryz.results16, go_sem]) rfl ⟨⟨v3, rfl, own_base HO.out (by simp; omega)⟩, ?_⟩
    exact HX1.out.trans (HX2.out.trans (((Ex.refl _ _).alloc _).trans HX3.out))

set_option maxHeartbeats 2000000 in
set_option maxRecDepth 100000 in
theorem is_any (t s : ByteArray) (x : EV) (w : World) (hev : w.cell? ⟨0, 0, none⟩ = some (.iface x.1 x.2)) (hp : goodP t = true) (hg : GL w) (hs : s.size ≤ 9223372036854775807) :
    Calls Tryz.prog 7 #[.string t, .string s] w fun e w' => e = .returned (.tuple #[.bool (matchM (patC t) s).isSome, .bool true]) ∧ Ex [] w w' := by
  have KR := hide (RMatch_any t s x w hev hp hg hs)
  obtain ⟨m, hm⟩ : ∃ m, m = matchM (patC t) s := ⟨_, rfl⟩
  rw [← hm] at KR ⊢
  clear hev hp hg hm
  go_enter Tryz.func7, Tryz.ntmps7
  go_wp2_with fail
  refine KR.out.mono ?_
  rintro e w1 ⟨hpost, hx1⟩
  have HX1 := hide hx1
  clear hx1
  cases m with
  | none =>
    obtain rfl := hpost
    go_wp2_with fail
    go_ret2
    exact ⟨rfl, HX1.out⟩
  | some sl =>
    obtain ⟨v, rfl, ho⟩ := hpost
    obtain ⟨g, c, rfl, hgb, hgl, hgc, hcell, _⟩ := own_cells ho (by omega)
    have j0 : w1.cell? ⟨g, 0, none⟩ = some (.int .i64 0) := by rw [hcell 0 (by omega)]; rfl
    have j1 : w1.cell? ⟨g, 1, none⟩ = some (.int .i64 s.size) := by rw [hcell 1 (by omega)]; rfl
    obtain ⟨n, hn⟩ : ∃ n, n = patN t + 1 := ⟨_, rfl⟩
    have hn0 : ¬ ((n : Int) = 0) := by omega
    have hn1 : ((n : Int) == 0) = false := by rw [beq_eq_false_iff_ne]; exact hn0
    have hn2 : (0 : Int) < (n : Int) := by omega
    rw [← hn]
    clear ho hcell hn
    go_wp2_with fail
    go_ret2
    exact ⟨rfl, HX1.out⟩
end Go.Proofs.YtcbiidoebpkifaaGreatDoor.G

/- What a group stands for, by its number. -/
namespace Go.Proofs.YtcbiidoebpkifaaGreatDoor.G
open Go.RowKit

def numM (s : ByteArray) (l : List (Int × Int)) (k : Int) : ByteArray :=
  if k < 0 then ⟨#[]⟩ else match l[k.toNat]? with
  | some y => if y.1 < 0 then ⟨#[]⟩ else s.extract y.1.toNat y.2.toNat
  | none => ⟨#[]⟩
theorem spanL_at (l : List (Int × Int)) (j : Nat) (y : Int × Int) (h : l[j]? = some y) : (spanL l)[j * 2]? = some (.int .i64 y.1) ∧ (spanL l)[j * 2 + 1]? = some (.int .i64 y.2) := by
  induction l generalizing j with
  | nil => simp at h
  | cons x l ih =>
    have e : spanL (x :: l) = .int .i64 x.1 :: .int .i64 x.2 :: spanL l := rfl
    cases j with
    | zero => simp at h; subst h; rw [e]; simp
    | succ j =>
      have h1 := ih j (by simpa using h)
      rw [e, show (j + 1) * 2 = j * 2 + 1 + 1 by omega]
      simpa using h1

set_option maxHeartbeats 2000000 in
set_option maxRecDepth 100000 in
theorem numbered_any (s : ByteArray) (mb g c : Nat) (l : List (Int × Int)) (k : Int) (w : World) (hgl : g < w.heap.size) (hcell : ∀ j u, (spanL l)[j]? = some u → w.cell? ⟨g, j, none⟩ = some u) (hl : l.length ≤ 1000) (hs : s.size ≤ 9223372036854775807)
    (hk : -9223372036854775808 ≤ k ∧ k ≤ 9223372036854775807) (hok : ∀ y ∈ l, y.1 < 0 ∨ (0 ≤ y.1 ∧ y.1 ≤ y.2 ∧ y.2 ≤ s.size)) :
    Calls Tryz.prog 98 #[.agg #[.string s, .slice (some ⟨g, 0, none⟩) l.length c, .map (some mb)], .int .i64 k] w fun e w' => e = .returned (.string (numM s l k)) ∧ Ex [] w w' := by
  obtain ⟨R, hR⟩ : ∃ R, R = numM s l k := ⟨_, rfl⟩
  rw [← hR]
  have HR := hide hR
  obtain ⟨n, hn⟩ : ∃ n, n = l.length := ⟨_, rfl⟩
  have HN := hide hn
  have HC := hide hcell
  have HOK := hide hok
  rw [← hn] at hl ⊢
  clear hR hcell hok
  by_cases h1 : k < 0
  · obtain rfl : R = ⟨#[]⟩ := by rw [HR.out]; unfold numM; rw [if_pos h1]
    clear hn
    go_enter Tryz.func98, Tryz.ntmps98
    go_wp2_with fail
    go_ret
    exact ⟨rfl, (Ex.refl _ _).alloc _⟩
  · by_cases h2 : (n : Int) ≤ k
    · obtain rfl : R = ⟨#[]⟩ := by rw [HR.out]; unfold numM; rw [if_neg h1, List.getElem?_eq_none (by omega)]
      clear hn
      go_enter Tryz.func98, Tryz.ntmps98
      go_wp2_with fail
      go_ret
      exact ⟨rfl, (Ex.refl _ _).alloc _⟩
    · obtain ⟨j, rfl⟩ : ∃ j : Nat, k = j := ⟨k.toNat, by omega⟩
      have hj : j < l.length := by omega
      obtain ⟨⟨y1, y2⟩, hy⟩ : ∃ y, l[j]? = some y := ⟨_, List.getElem?_eq_getElem hj⟩
      obtain ⟨s1, s2⟩ := spanL_at l j _ hy
      have c1 := (((Ex.refl [] w).alloc (Obj.cells #[.string s, .slice (some ⟨g, 0, none⟩) n c, .map (some mb)] 55)).cell0.1 g _ hgl).trans (HC.out _ _ s1)
      have c2 := (((Ex.refl [] w).alloc (Obj.cells #[.string s, .slice (some ⟨g, 0, none⟩) n c, .map (some mb)] 55)).cell0.1 g _ hgl).trans (HC.out _ _ s2)
      have hjn : (j : Int) < (n : Int) := by omega
      have ho := HOK.out _ (List.mem_of_getElem? hy)
      dsimp only at ho c1 c2
      by_cases h3 : y1 < 0
      · obtain rfl : R = ⟨#[]⟩ := by rw [HR.out]; unfold numM; rw [if_neg h1, Int.toNat_natCast, hy]; exact if_pos h3
        clear hn hy s1 s2 ho
        go_enter Tryz.func98, Tryz.ntmps98
        go_wp2_with fail
        go_ret
        exact ⟨rfl, (Ex.refl _ _).alloc _⟩
      · have ho' : 0 ≤ y1 ∧ y1 ≤ y2 ∧ y2 ≤ s.size := by omega
        obtain ⟨a, rfl⟩ : ∃ a : Nat, y1 = a := ⟨y1.toNat, by omega⟩
        obtain ⟨b, rfl⟩ : ∃ b : Nat, y2 = b := ⟨y2.toNat, by omega⟩
        have hr : R = s.extract a b := by rw [HR.out]; unfold numM; rw [if_neg h1, Int.toNat_natCast, hy]; exact if_neg h3
        obtain ⟨o1, o2, o3⟩ := ho'
        have HRR := hide hr
        clear hn hy s1 s2 ho hr
        go_enter Tryz.func98, Tryz.ntmps98
        go_wp2_with fail
        go_quiet (fail)
        go_wp2_with fail
        go_ret
        exact ⟨by rw [HRR.out]; rfl, by first | exact ((Ex.refl _ _).alloc _).drewN _ | exact (Ex.refl _ _).alloc _ | exact ((Ex.refl _ _).alloc _).drew⟩
end Go.Proofs.YtcbiidoebpkifaaGreatDoor.G
