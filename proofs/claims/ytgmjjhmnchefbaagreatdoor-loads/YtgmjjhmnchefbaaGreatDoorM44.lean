/- N6 N7 N8 N9, one behind the other. -/
import Derived.Test.YtgmjjhmnchefbaaGreatDoorM39
import Derived.Test.YtgmjjhmnchefbaaGreatDoorM30
import Derived.Laws.MakeOwn
import Derived.Laws.CopyRow
import Derived.Laws.IdiomCopy
import Derived.Test.YtgmjjhmnchefbaaGreatDoorM43
set_option linter.unusedVariables false
set_option linter.unusedSimpArgs false
/- Texts that are handed in: a list of one's own, with spare room. -/
namespace Go.Proofs.YtgmjjhmnchefbaaGreatDoor.G
open Go.RowKit

def spareT : ByteArray := ⟨#[33]⟩
theorem made_one (z : Value) (n : Nat) : madeCells #[z] n = (List.replicate n z).toArray := by
  apply Array.ext
  · simp [madeCells]
  · intro i h1 h2
    simp [madeCells, Nat.mod_one]
theorem run_make_str (w : World) (n : Nat) (hn : n * 16 ≤ 281474976710656) : (Instr.makeSlice 46 (.int .i64 (n : Int)) (.int .i64 (n : Int))).run Tryz.prog w = .ok (.slice (some ⟨w.heap.size, 0, none⟩) n n) (w.alloc (.cells (List.replicate n (Value.string ⟨#[]⟩)).toArray 9)) := by
  obtain ⟨i0, hi, hz0, hz1, hz2⟩ := info_parts infoStrL
  have h := run_make (P := Tryz.prog) w 46 9 i0 _ Tryz.underlying46 hi hz0 .i64 .i64 (n : Int) (n : Int) (by omega) (Int.le_refl _) (by rw [hz2]; omega) (by omega)
  rw [hz1, Int.toNat_natCast, Nat.mul_one] at h
  rw [h, show (Value.string ⟨#[]⟩ : Value).cells = #[.string ⟨#[]⟩] from rfl, made_one]
theorem run_copy_strs (w : World) (B n c m : Nat) (p : Option Addr) (ss : List ByteArray) (hB : BK w B (.cells (List.replicate (ss.length + m) (Value.string ⟨#[]⟩)).toArray 9 (0, 0))) (hv : SSo w p ss) (ty : TypeId) :
    ∃ w', (Builtin.copy_ #[46, 46] ty #[.slice (some ⟨B, 0, none⟩) (ss.length + m) (ss.length + m), .slice p ss.length c]).run Tryz.prog w = .ok (goInt ss.length) w' ∧ BK w' B (.cells (ss.map Value.string ++ List.replicate m (Value.string ⟨#[]⟩)).toArray 9 (0, 0)) ∧ Ex [B] w w' := by
  have hsz : (Tryz.prog.info? 9).map (·.size) = some 1 := by kernel_rfl
  cases ss with
  | nil =>
    refine ⟨w, run_copy_none w _ _ _ 9 _ _ _ _ _ _ Tryz.underlying46 hsz (by simp), by simpa using hB, Ex.refl _ _⟩
  | cons s l =>
    obtain ⟨b, o, rfl, _, _⟩ := hv 0 s rfl
    have h := run_copy_row (P := Tryz.prog) w 46 46 ty 9 B 0 ((s :: l).length + m) ((s :: l).length + m) ⟨b, o, none⟩ (s :: l).length c _ 9 ((s :: l).map Value.string) Tryz.underlying46 hsz hB (by rw [List.length_map]; exact (Nat.min_eq_left (by omega)).symm) (fun j v hj => by
      rw [List.getElem?_map] at hj
      cases hs : (s :: l)[j]? with
      | none => rw [hs] at hj; cases hj
      | some x =>
        rw [hs] at hj
        cases hj
        obtain ⟨b', o', h1, _, h2⟩ := hv j x hs
        cases h1
        by_cases h0 : j = 0
        · subst h0; simpa [Addr.add] using h2
        · simpa [Addr.add, h0] using h2) (by rw [List.length_map, List.size_toArray, List.length_replicate]; omega) (fun v hv' => by
      obtain ⟨x, _, rfl⟩ := List.mem_map.1 hv'
      rfl)
    rw [List.length_map] at h
    refine ⟨_, h, ?_, (Ex.refl _ _).setRow (.inl (by simp)) _⟩
    have h2 := setRow_heap w B _ (List.take 0 (List.replicate ((s :: l).length + m) (Value.string ⟨#[]⟩)).toArray.toList ++ (s :: l).map Value.string ++ List.drop (0 + (s :: l).length) (List.replicate ((s :: l).length + m) (Value.string ⟨#[]⟩)).toArray.toList).toArray 9 (0, 0) hB
    unfold BK
    rw [h2]
    simp
set_option maxHeartbeats 4000000 in
set_option maxRecDepth 100000 in
theorem handedTexts_any (p : Option Addr) (c : Nat) (ss : List ByteArray) (w : World) (hv : SSo w p ss) (hn : ss.length * 16 ≤ 140737488351232) :
    Calls Tryz.prog 37 #[.slice p ss.length c] w fun e w' => e = .returned (.slice (some ⟨w.heap.size, 0, none⟩) ss.length (ss.length + 8)) ∧ BK w' w.heap.size (.cells (ss.map Value.string ++ List.replicate 8 (Value.string spareT)).toArray 9 (0, 0)) ∧ Ex [] w w' := by
  obtain ⟨W1, hW1⟩ : ∃ W1, W1 = w.alloc (.cells (List.replicate (ss.length + 8) (Value.string ⟨#[]⟩)).toArray 9) := ⟨_, rfl⟩
  have hb1 : BK W1 w.heap.size (.cells (List.replicate (ss.length + 8) (Value.string ⟨#[]⟩)).toArray 9 (0, 0)) := by rw [hW1]; exact BK.new _ _
  have hx1 : Ex [] w W1 := by rw [hW1]; exact (Ex.refl _ _).alloc _
  have hmk := run_make_str w (ss.length + 8) (by omega)
  rw [← hW1] at hmk
  obtain ⟨ty0, hty0⟩ : ∃ ty0 : TypeId, ty0 = 3 := ⟨_, rfl⟩
  have HCP := hide (fun ty => run_copy_strs W1 w.heap.size 0 c 8 p ss hb1 (hv.ex hx1 (by simp)) ty)
  have HX1 := hide hx1
  obtain ⟨n, hnn⟩ : ∃ n, n = ss.length := ⟨_, rfl⟩
  have HNN := hide hnn
  rw [← hnn] at hmk hn HCP ⊢
  have hmk2 : (Instr.makeSlice 46 (.int .i64 ((n : Int) + 8)) (.int .i64 ((n : Int) + 8))).run Tryz.prog w = .ok (.slice (some ⟨w.heap.size, 0, none⟩) (n + 8) (n + 8)) W1 := by
    rw [← hmk]
    simp
  clear hW1 hb1 hx1 hmk hnn hv hty0
  go_enter Tryz.func37, Tryz.ntmps37
  go_upto_region 3 with fail
  obtain ⟨W2, hcp, hb2, hx2⟩ := HCP.out 3
  have HB2 := hide hb2
  have HX2 : Hid (Ex [] w W2) := (HX1.out.drop (by simp)).trans hx2 |>.drop (fun x hx hlt => by simp at hx; omega)
  clear hb2 hx2 HCP hmk2
  go_wp2_with fail
  clear hcp
  go_loopg [5] 8 (fun gk i wr => ∃ j : Nat, j + gk = 8 ∧ i = .int .i64 ((n : Int) + (j : Int)) ∧ BK wr w.heap.size (.cells (ss.map Value.string ++ List.replicate j (Value.string spareT) ++ List.replicate gk (Value.string ⟨#[]⟩)).toArray 9 (0, 0)) ∧ Ex [] w wr)
  case atStart => exact ⟨0, by omega, by simp, by simpa using HB2.out, HX2.out⟩
  case round =>
    obtain ⟨j, hj, rfl, hb, hx⟩ := hrel
    have HB := hide hb
    have HX := hide hx
    have hlt := hb.lt
    cases gk with
    | zero =>
      obtain rfl : j = 8 := by omega
      have hno : ¬ (n : Int) + ((8 : Nat) : Int) < (n : Int) + 8 := by omega
      have hno2 : ¬ (n : Int) + 8 < (n : Int) + 8 := by omega
      clear hb hx hj
      go_wp2_with fail
      go_ret
      exact ⟨rfl, by simpa using HB.out, HX.out⟩
    | succ g =>
      have hlt8 : (n : Int) + (j : Int) < (n : Int) + 8 := by omega
      have hlt9 : (n : Int) + (j : Int) < ((n + 8 : Nat) : Int) := by omega
      have htn : ((n : Int) + (j : Int)).toNat = n + j := by omega
      have hge : (0 : Int) ≤ (n : Int) + (j : Int) := by omega
      have hc : wr.cell? ⟨w.heap.size, n + j, none⟩ = some (Value.string ⟨#[]⟩) := by
        rw [hb.all.1 (n + j), List.getElem?_toArray, List.append_assoc, List.getElem?_append_right (by rw [List.length_map, ← HNN.out]; omega), List.length_map, ← HNN.out, Nat.add_sub_cancel_left, List.getElem?_append_right (by simp), List.length_replicate, Nat.sub_self]
        rfl
      have hfz := hb.all.2 (n + j)
      have hb3 := hb.selfL (n + j) (Value.string spareT)
      have hset : (ss.map Value.string ++ List.replicate j (Value.string spareT) ++ List.replicate (g + 1) (Value.string ⟨#[]⟩)).set (n + j) (Value.string spareT) = ss.map Value.string ++ List.replicate (j + 1) (Value.string spareT) ++ List.replicate g (Value.string ⟨#[]⟩) := by
        rw [List.append_assoc, List.set_append, if_neg (by rw [List.length_map, ← HNN.out]; omega), List.length_map, ← HNN.out, Nat.add_sub_cancel_left, List.set_append, if_neg (by simp), List.length_replicate, Nat.sub_self, List.replicate_succ, List.set_cons_zero, List.append_assoc, List.replicate_succ', List.append_assoc]
        rfl
      rw [hset] at hb3
      have HB3 := hide hb3
      have HX3 : Hid (Ex [] w (wr.setCell ⟨w.heap.size, n + j, none⟩ (Value.string spareT))) := hx.setCell (.inr (by simp)) _
      unfold spareT at HB3 HX3
      clear hb hx hb3 hset
      go_wp2_with fail
      go_roundg g
      case measure => omega
      case rel => exact ⟨j + 1, by omega, by simp; omega, HB3.out, HX3.out⟩
end Go.Proofs.YtgmjjhmnchefbaaGreatDoor.G

/- Rules that are handed in: a list of one's own, with spare room. -/
namespace Go.Proofs.YtgmjjhmnchefbaaGreatDoor.G
open Go.RowKit

theorem Ex.setCells {l : List Nat} {a : World} {b : Nat} (hb : b ∈ l ∨ a.heap.size ≤ b) : ∀ (vs : List Value) (o : Nat) (w : World), Ex l a w → Ex l a (w.setCells b o vs)
  | [], o, w, h => h
  | v :: r, o, w, h => Ex.setCells hb r (o + 1) _ (h.setCell hb v)
theorem size_setCells (b : Nat) : ∀ (vs : List Value) (o : Nat) (w : World), (w.setCells b o vs).heap.size = w.heap.size
  | [], o, w => rfl
  | v :: r, o, w => by rw [World.setCells, size_setCells b r]; simp [World.setCell]
def hcells (r : AR) (u : UR) (B : Nat) : List Value := [.int .i64 r.act, .slice (some ⟨B, 0, none⟩) u.ss.length (u.ss.length + 8), .string r.se, .string r.re, .string r.ta, .string r.rp, .int .u64 r.mo]
def spareC : List Value := [.int .i64 (-5), .slice none 0 0, .string ⟨#[]⟩, .string spareT, .string ⟨#[]⟩, .string ⟨#[]⟩, .int .u64 0]
structure HRow (w : World) (O k : Nat) (r : AR) (u : UR) (B : Nat) : Prop where
  row : w.rangeAt O (k * 7) (hcells r u B)
  txt : BK w B (.cells (u.ss.map Value.string ++ List.replicate 8 (Value.string spareT)).toArray 9 (0, 0))
  ne : B ≠ O
theorem HRow.ex {w w' : World} {O k : Nat} {r : AR} {u : UR} {B : Nat} (h : HRow w O k r u B) (hx : Ex [] w w') (hO : O < w.heap.size) : HRow w' O k r u B :=
  ⟨fun j v hv => (hx.cell0.1 O _ hO).trans (h.row j v hv), h.txt.ex hx (by simp), h.ne⟩
theorem HRow.cells {w : World} {O k : Nat} {r : AR} {u : UR} {B : Nat} (h : HRow w O k r u B) {o : Nat} {vs : List Value} (hap : k * 7 + 7 ≤ o ∨ o + vs.length ≤ k * 7) : HRow (w.setCells O o vs) O k r u B :=
  ⟨World.rangeAt_setCells_apart h.row O o vs (.inr hap), by
    have hx : Ex [O] w (w.setCells O o vs) := Ex.setCells (.inl (by simp)) vs o w (Ex.refl _ _)
    exact h.txt.ex hx (by simpa using h.ne), h.ne⟩
def HL (w : World) (O : Nat) (rs : List AR) (us : List UR) (Bs : List Nat) (i : Nat) : Prop := ∀ k r u b, k < i → rs[k]? = some r → us[k]? = some u → Bs[k]? = some b → HRow w O k r u b
theorem there_new (w : World) (cs : Array Value) (t : TypeId) (n : Nat) (hn : cs.size = n) : (w.alloc (.cells cs t)).there w.heap.size 0 n := fun j hj => by
  have h := (BK.new w (.cells cs t)).all
  refine ⟨?_, h.2 _⟩
  rw [h.1, Nat.zero_add, Array.getElem?_eq_getElem (by omega)]
  rfl
theorem there_ex {w w' : World} {b o n : Nat} (h : w.there b o n) (hx : Ex [] w w') (hb : b < w.heap.size) : w'.there b o n := fun j hj => by
  rw [hx.cell0.1 b _ hb, hx.cell0.2 b _ hb]
  exact h j hj
theorem there_part {w : World} {b n : Nat} (h : w.there b 0 n) {o m : Nat} (ho : o + m ≤ n) : w.there b o m := fun j hj => by
  have := h (o + j) (by omega)
  rwa [Nat.zero_add] at this
set_option maxRecDepth 100000 in
theorem infoARuleN : ∃ i, Tryz.prog.info? 118 = some i ∧ (∃ z, i.zero = some z) ∧ i.size = 7 ∧ i.bytes = 104 := by
  have h : (Tryz.prog.info? 118).map (fun i => (i.zero.isSome, i.size, i.bytes)) = some (true, 7, 104) := by kernel_rfl
  cases hi : Tryz.prog.info? 118 with
  | none => rw [hi] at h; cases h
  | some i =>
    rw [hi] at h
    injection h with h
    injection h with h1 h2
    injection h2 with h2 h3
    exact ⟨i, rfl, Option.isSome_iff_exists.1 h1, h2, h3⟩
theorem run_make_rules (w : World) (n : Nat) (hn : n * 104 ≤ 281474976710656) : ∃ W, (Instr.makeSlice 31 (.int .i64 (n : Int)) (.int .i64 (n : Int))).run Tryz.prog w = .ok (.slice (some ⟨w.heap.size, 0, none⟩) n n) W ∧ W.there w.heap.size 0 (n * 7) ∧ Ex [] w W ∧ w.heap.size < W.heap.size := by
  obtain ⟨i, hi, ⟨z, hz⟩, hs, hb⟩ := infoARuleN
  have h := run_make (P := Tryz.prog) w 31 118 i z Tryz.underlying31 hi hz .i64 .i64 (n : Int) (n : Int) (by omega) (Int.le_refl _) (by rw [hb]; omega) (by omega)
  rw [hs, Int.toNat_natCast] at h
  exact ⟨_, h, there_new w _ _ _ (size_madeCells _ _), (Ex.refl _ _).alloc _, by simp⟩
structure UR.fits3 (u : UR) : Prop where
  len : u.ss.length * 16 ≤ 140737488351232
set_option maxHeartbeats 8000000 in
set_option maxRecDepth 100000 in
theorem handedRules_any (v : Value) (rs : List AR) (us : List UR) (w : World) (hv : AL w v rs) (hlen : us.length = rs.length) (hsay : ∀ (i : Nat) r u, rs[i]? = some r → us[i]? = some u → SaysO w r u) (hfit : ∀ u ∈ us, u.fits3) (hn : rs.length * 104 ≤ 140737488351232) :
    Calls Tryz.prog 16 #[v] w fun e w' => ∃ Bs, e = .returned (.slice (some ⟨w.heap.size, 0, none⟩) rs.length (rs.length + 8)) ∧ Bs.length = rs.length ∧ (∀ b ∈ Bs, w.heap.size < b ∧ b < w'.heap.size) ∧ HL w' w.heap.size rs us Bs rs.length ∧ (∀ k, rs.length ≤ k → k < rs.length + 8 → w'.rangeAt w.heap.size (k * 7) spareC) ∧ w'.there w.heap.size 0 ((rs.length + 8) * 7) ∧ w.heap.size < w'.heap.size ∧ Ex [] w w' := by
  have HV := hide hv
  have HSAY := hide hsay
  have HFIT := hide hfit
  have HLEN := hide hlen
  obtain ⟨p, c, rfl⟩ := hv.slice
  obtain ⟨n, hnn⟩ : ∃ n, n = rs.length := ⟨_, rfl⟩
  have HNN := hide hnn
  rw [← hnn] at hn ⊢
  obtain ⟨W1, hmk, hth, hx1, hlt1⟩ := run_make_rules w (n + 8) (by omega)
  have hmk2 : (Instr.makeSlice 31 (.int .i64 ((n : Int) + 8)) (.int .i64 ((n : Int) + 8))).run Tryz.prog w = .ok (.slice (some ⟨w.heap.size, 0, none⟩) (n + 8) (n + 8)) W1 := by
    rw [← hmk]
    simp
  have HTH := hide hth
  have HX1 := hide hx1
  have HISZ : Hid ((Tryz.prog.info? 118).map (·.size) = some 7) := by show _ = _; kernel_rfl
  clear hv hsay hfit hlen hnn hmk hth hx1
  go_enter Tryz.func16, Tryz.ntmps16
  go_upto_region 3 with fail
  clear hmk2
  go_wp2_with fail
  go_loopg [5] n (fun gk i5 wr => ∃ (i : Nat) (Bs : List Nat), i + gk = n ∧ i5 = .int .i64 (i : Int) ∧ Bs.length = i ∧ (∀ b ∈ Bs, w.heap.size < b ∧ b < wr.heap.size) ∧ HL wr w.heap.size rs us Bs i ∧ wr.there w.heap.size 0 ((n + 8) * 7) ∧ w.heap.size < wr.heap.size ∧ Ex [] w wr)
  case atStart => exact ⟨0, [], by omega, rfl, rfl, by simp, fun k r u b hk => by omega, HTH.out, hlt1, HX1.out⟩
  case round =>
    obtain ⟨i, Bs, hi, rfl, hBl, hBb, hHL, hth, hlt, hx⟩ := hrel
    have HBL := hide hBl
    have HBB := hide hBb
    have HHL := hide hHL
    have HT := hide hth
    have HX := hide hx
    have hwz := hx.size
    clear hBl hBb hHL hth
    cases gk with
    | succ g =>
      have hil : i < rs.length := by rw [← HNN.out]; omega
      have hin : (i : Int) < (n : Int) := by omega
      have hin8 : (i : Int) < (n : Int) + 8 := by omega
      have hin9 : i < n + 8 := by omega
      obtain ⟨r, hr⟩ : ∃ r, rs[i]? = some r := ⟨_, List.getElem?_eq_getElem hil⟩
      obtain ⟨u, hu⟩ : ∃ u, us[i]? = some u := ⟨_, List.getElem?_eq_getElem (by rw [HLEN.out]; exact hil)⟩
      obtain ⟨rb, off, hprb, hrbl, hrc⟩ : ∃ rb off, p = some ⟨rb, off, none⟩ ∧ rb < w.heap.size ∧ ∀ o, o < 7 → wr.cell? ⟨rb, off + i * 7 + o, none⟩ = r.cells[o]? := by
        obtain ⟨p', c', h1, h2⟩ := HV.out
        injection h1 with e1 e2 e3
        obtain ⟨b, off, h3, hb, hc⟩ := h2 i r hr
        exact ⟨b, off, e1.trans h3, hb, fun o ho => (hx.cell0.1 b _ hb).trans (hc o ho)⟩
      subst hprb
      have hs := HSAY.out i r u hr hu
      have hf := HFIT.out u (List.mem_of_getElem? hu)
      have HR := hide hr
      have HU := hide hu
      obtain ⟨act, rp0, rn, rc, se, re, ta, rp, mo⟩ := r
      have hlenr : rn = u.ss.length := hs.len
      subst hlenr
      have hss : SSo w rp0 u.ss := hs.ss
      unfold AR.cells at hrc
      dsimp only at hrc
      have c0 : wr.cell? ⟨rb, off + i * 7, none⟩ = some (.int .i64 act) := hrc 0 (by omega)
      have c1 : wr.cell? ⟨rb, off + i * 7 + 1, none⟩ = some (.slice rp0 u.ss.length rc) := hrc 1 (by omega)
      have c2 : wr.cell? ⟨rb, off + i * 7 + 2, none⟩ = some (.string se) := hrc 2 (by omega)
      have c3 : wr.cell? ⟨rb, off + i * 7 + 3, none⟩ = some (.string re) := hrc 3 (by omega)
      have c4 : wr.cell? ⟨rb, off + i * 7 + 4, none⟩ = some (.string ta) := hrc 4 (by omega)
      have c5 : wr.cell? ⟨rb, off + i * 7 + 5, none⟩ = some (.string rp) := hrc 5 (by omega)
      have c6 : wr.cell? ⟨rb, off + i * 7 + 6, none⟩ = some (.int .u64 mo) := hrc 6 (by omega)
      have hrbw : rb < wr.heap.size := by omega
      obtain ⟨sl, hsl⟩ : ∃ sl, sl = u.ss.length := ⟨_, rfl⟩
      have HSL := hide hsl
      rw [← hsl] at c1
      obtain ⟨W2, hW2⟩ : ∃ W2, W2 = wr.setCells w.heap.size (i * 7) [.int .i64 act, .slice rp0 sl rc, .string se, .string re, .string ta, .string rp, .int .u64 mo] := ⟨_, rfl⟩
      have hx2 : Ex [] w W2 := by rw [hW2]; exact Ex.setCells (.inr (Nat.le_refl _)) _ _ _ hx
      have hxr2 : Ex [w.heap.size] wr W2 := by rw [hW2]; exact Ex.setCells (.inl (by simp)) _ _ _ (Ex.refl _ _)
      have d1 : W2.cell? ⟨rb, off + i * 7 + 1, none⟩ = some (.slice rp0 sl rc) := (hxr2.cell1.1 rb _ hrbw (by omega)).trans c1
      have hrb2 : rb < W2.heap.size := by have := hxr2.size; omega
      have hth2 : W2.there w.heap.size 0 ((n + 8) * 7) := by rw [hW2]; exact World.there_setCells HT.out _ _ _
      have hrow2 : W2.rangeAt w.heap.size (i * 7) [.int .i64 act, .slice rp0 sl rc, .string se, .string re, .string ta, .string rp, .int .u64 mo] := by rw [hW2]; exact World.rangeAt_setCells_same _ _ _ _ (there_part HT.out (by show i * 7 + 7 ≤ _; omega))
      have hHL2 : HL W2 w.heap.size rs us Bs i := fun k r' u' b hk h1 h2 h3 => by rw [hW2]; exact (HHL.out k r' u' b hk h1 h2 h3).cells (.inl (by omega))
      have hlt2 : w.heap.size < W2.heap.size := by have := hxr2.size; omega
      have KT := hide (handedTexts_any rp0 rc u.ss W2 (hss.ex hx2 (by simp)) hf.len)
      rw [← hsl] at KT
      have HW2 := hide hW2
      have HX2 := hide hx2
      have HTH2 := hide hth2
      have HROW2 := hide hrow2
      have HHL2 := hide hHL2
      have htp : wr.there w.heap.size (i * 7) 7 := there_part HT.out (by omega)
      have HTP := hide htp
      clear hx hr hu hrc hs hf hss hsl hW2 hx2 hxr2 hth2 hrow2 hHL2 htp
      have HAL : Hid ((#[.int .i64 act, .slice rp0 sl rc, .string se, .string re, .string ta, .string rp, .int .u64 mo] : Array Value).all (·.oneCell') = true) := by show Array.all _ _ = true; simp [Value.oneCell']
      go_upto_region 7 with (refine wpList_store_mid rfl 118 _ _ rfl w.heap.size (i * 7) #[.int .i64 act, .slice rp0 sl rc, .string se, .string re, .string ta, .string rp, .int .u64 mo] rfl rfl HTP.out HISZ.out HAL.out ?_)
      rw [← HW2.out]
      clear c0 c1 c2 c3 c4 c5 c6
      go_wp2_with fail
      refine KT.out.mono ?_
      rintro e w3 ⟨rfl, hb3, hx3⟩
      have hz3 := hx3.size
      have hth3 := there_ex HTH2.out hx3 hlt2
      have hfz := (hth3 (i * 7 + 1) (by omega)).2
      have hcl : w3.cell? ⟨w.heap.size, i * 7 + 1, none⟩ = some (.slice rp0 sl rc) := (hx3.cell0.1 _ _ hlt2).trans (HROW2.out 1 _ rfl)
      rw [Nat.zero_add] at hfz
      have hrow3 : ∀ j v, ([.int .i64 act, .slice rp0 sl rc, .string se, .string re, .string ta, .string rp, .int .u64 mo] : List Value)[j]? = some v → w3.cell? ⟨w.heap.size, i * 7 + j, none⟩ = some v := fun j v hv => (hx3.cell0.1 _ _ hlt2).trans (HROW2.out j v hv)
      obtain ⟨w4, hw4⟩ : ∃ w4, w4 = w3.setCells w.heap.size (i * 7 + 1) [.slice (some ⟨W2.heap.size, 0, none⟩) sl (sl + 8)] := ⟨_, rfl⟩
      have hHR : HRow w4 w.heap.size i ⟨act, rp0, u.ss.length, rc, se, re, ta, rp, mo⟩ u W2.heap.size := by
        refine ⟨fun j v hv => ?_, ?_, by omega⟩
        · rw [hw4]
          unfold hcells at hv
          rw [← HSL.out] at hv
          dsimp only at hv
          match j, hv with
          | 0, hv => rw [World.cell?_setCells_out _ _ _ _ _ (fun _ _ => .inl (by show i * 7 + 0 < i * 7 + 1; omega))]; exact hrow3 0 v hv
          | 1, hv =>
            cases hv
            exact World.cell?_setCells_in w.heap.size [.slice (some ⟨W2.heap.size, 0, none⟩) sl (sl + 8)] (i * 7 + 1) w3 (fun j hj => by
              obtain rfl : j = 0 := by simp at hj; omega
              rw [Nat.add_zero, hcl]
              rfl) 0 (by simp)
          | j + 2, hv => rw [World.cell?_setCells_out _ _ _ _ _ (fun _ _ => .inr (by show i * 7 + 1 + 1 ≤ i * 7 + (j + 2); omega))]; exact hrow3 (j + 2) v (by simpa using hv)
        · rw [hw4]
          exact hb3.ex (Ex.setCells (l := [w.heap.size]) (.inl (by simp)) _ _ _ (Ex.refl _ _)) (by simp; omega)
      have hHL4 : HL w4 w.heap.size rs us (Bs ++ [W2.heap.size]) (i + 1) := fun k r' u' b hk h1 h2 h3 => by
        by_cases hki : k = i
        · subst hki
          rw [HR.out] at h1
          rw [HU.out] at h2
          cases h1; cases h2
          rw [List.getElem?_append_right (by rw [HBL.out]; omega), HBL.out, Nat.sub_self] at h3
          cases h3
          exact hHR
        · rw [List.getElem?_append_left (by rw [HBL.out]; omega)] at h3
          have h4 := (HHL2.out k r' u' b (by omega) h1 h2 h3).ex hx3 hlt2
          rw [hw4]
          exact h4.cells (.inl (by omega))
      have hx4 : Ex [] w w4 := by rw [hw4]; exact Ex.setCells (.inr (Nat.le_refl _)) _ _ _ (HX2.out.trans hx3)
      have hth4 : w4.there w.heap.size 0 ((n + 8) * 7) := by rw [hw4]; exact World.there_setCells hth3 _ _ _
      have hsz4 : w4.heap.size = w3.heap.size := by rw [hw4]; exact size_setCells _ _ _ _
      have hb3lt := hb3.lt
      have HREL := hide (And.intro hHL4 (And.intro hth4 hx4))
      have HW4 := hide hw4
      clear hb3 hx3 hth3 hrow3 hHR hHL4 hx4 hth4 hw4 KT
      go_wp2_with fail
      rw [show w3.setCell ⟨w.heap.size, i * 7 + 1, none⟩ (.slice (some ⟨W2.heap.size, 0, none⟩) sl (sl + 8)) = w4 from HW4.out.symm]
      go_roundg g
      case measure => omega
      case rel =>
        refine ⟨i + 1, Bs ++ [W2.heap.size], by omega, by simp, by rw [List.length_append, HBL.out]; rfl, fun b hb => ?_, HREL.out.1, HREL.out.2.1, by omega, HREL.out.2.2⟩
        rcases List.mem_append.1 hb with h | h
        · have h9 := HBB.out b h
          have h10 : wr.heap.size = W2.heap.size := by rw [HW2.out]; exact (size_setCells _ _ _ _).symm
          omega
        · rw [List.mem_singleton.1 h]; omega
    | zero =>
      obtain rfl : i = n := by omega
      have hin : ¬ (i : Int) < (i : Int) := by omega
      obtain ⟨S0, hS0⟩ : ∃ x, x = wr.heap.size := ⟨_, rfl⟩
      rw [← hS0] at HBB hlt
      have HS0 := hide hS0
      clear hx hi hS0
      go_wp2_with fail
      go_loopg [6] 8 (fun gk i6 wq => ∃ (j m : Nat), m = i + j ∧ j + gk = 8 ∧ i6 = .int .i64 (m : Int) ∧ HL wq w.heap.size rs us Bs i ∧ (∀ k, i ≤ k → k < i + j → wq.rangeAt w.heap.size (k * 7) spareC) ∧ wq.there w.heap.size 0 ((i + 8) * 7) ∧ S0 ≤ wq.heap.size ∧ Ex [] w wq)
      case atStart => exact ⟨0, i, rfl, by omega, rfl, HHL.out, fun k h1 h2 => by omega, HT.out, by rw [HS0.out]; exact Nat.le_refl _, HX.out⟩
      case round =>
        obtain ⟨j, m, hm, hj, rfl, hHL, hsp, hth, hsz, hx⟩ := hrel
        have HM := hide hm
        have HHL2 := hide hHL
        have HSP := hide hsp
        have HT2 := hide hth
        have HX2 := hide hx
        clear hHL hsp hth hx
        cases gk with
        | zero =>
          obtain rfl : j = 8 := by omega
          have hno2 : ¬ (m : Int) < (i : Int) + 8 := by omega
          clear hj hm
          go_wp2_with fail
          go_ret
          exact ⟨rfl, Bs, HBL.out, fun b hb => by have := HBB.out b hb; omega, HHL2.out, HSP.out, HT2.out, by omega, HX2.out⟩
        | succ g =>
          have hlt8 : (m : Int) < (i : Int) + 8 := by omega
          have hlt9 : m < i + 8 := by omega
          have hlt7 : i ≤ m := by omega
          obtain ⟨w4, hw4⟩ : ∃ w4, w4 = wr.setCells w.heap.size (m * 7) spareC := ⟨_, rfl⟩
          have htp : wr.there w.heap.size (m * 7) 7 := there_part HT2.out (by omega)
          have hHL4 : HL w4 w.heap.size rs us Bs i := fun k r' u' b hk h1 h2 h3 => by rw [hw4]; exact (HHL2.out k r' u' b hk h1 h2 h3).cells (.inl (by omega))
          have hsp4 : ∀ k, i ≤ k → k < i + (j + 1) → w4.rangeAt w.heap.size (k * 7) spareC := fun k h1 h2 => by
            rw [hw4]
            by_cases hk : k = m
            · subst hk
              exact World.rangeAt_setCells_same _ _ _ _ htp
            · exact World.rangeAt_setCells_apart (HSP.out k h1 (by have := HM.out; omega)) _ _ _ (.inr (.inl (by show k * 7 + 7 ≤ _; omega)))
          have hx4 : Ex [] w w4 := by rw [hw4]; exact Ex.setCells (.inr (Nat.le_refl _)) _ _ _ HX2.out
          have hth4 : w4.there w.heap.size 0 ((i + 8) * 7) := by rw [hw4]; exact World.there_setCells HT2.out _ _ _
          have hsz4 : w4.heap.size = wr.heap.size := by rw [hw4]; exact size_setCells _ _ _ _
          have HREL := hide (And.intro hHL4 (And.intro hsp4 (And.intro hth4 hx4)))
          have HTP := hide htp
          have HW4 := hide hw4
          have hwrl : w.heap.size < wr.heap.size := by omega
          clear htp hHL4 hsp4 hx4 hth4 hw4 hm
          unfold spareC spareT at HW4
          have HAL : Hid ((#[.int .i64 (-5), .slice none 0 0, .string ⟨#[]⟩, .string ⟨#[33]⟩, .string ⟨#[]⟩, .string ⟨#[]⟩, .int .u64 0] : Array Value).all (·.oneCell') = true) := by show Array.all _ _ = true; simp [Value.oneCell']
          go_upto_region 10 with (refine wpList_store_mid rfl 118 _ _ rfl w.heap.size (m * 7) #[.int .i64 (-5), .slice none 0 0, .string ⟨#[]⟩, .string ⟨#[33]⟩, .string ⟨#[]⟩, .string ⟨#[]⟩, .int .u64 0] rfl rfl HTP.out HISZ.out HAL.out ?_)
          rw [← HW4.out]
          go_wp2_with fail
          go_roundg g
          case measure => omega
          case rel => exact ⟨j + 1, m + 1, by have := HM.out; omega, by omega, by simp, HREL.out.1, HREL.out.2.1, HREL.out.2.2.1, by omega, HREL.out.2.2.2⟩
end Go.Proofs.YtgmjjhmnchefbaaGreatDoor.G

/- What was handed in is as it was: texts. -/
namespace Go.Proofs.YtgmjjhmnchefbaaGreatDoor.G
open Go.RowKit

theorem spare_at {w : World} {B : Nat} {ss : List ByteArray} (hB : BK w B (.cells (ss.map Value.string ++ List.replicate 8 (Value.string spareT)).toArray 9 (0, 0))) : (∀ j s, ss[j]? = some s → w.cell? ⟨B, j, none⟩ = some (.string s)) ∧ (∀ j, ss.length ≤ j → j < ss.length + 8 → w.cell? ⟨B, j, none⟩ = some (.string spareT)) := by
  refine ⟨fun j s hs => ?_, fun j h1 h2 => ?_⟩
  · have hj := (List.getElem?_eq_some_iff.1 hs).1
    rw [hB.all.1 j, List.getElem?_toArray, List.getElem?_append_left (by rw [List.length_map]; exact hj), List.getElem?_map, hs]
    rfl
  · rw [hB.all.1 j, List.getElem?_toArray, List.getElem?_append_right (by rw [List.length_map]; exact h1), List.length_map, List.getElem?_replicate, if_pos (by omega)]
set_option maxHeartbeats 4000000 in
set_option maxRecDepth 100000 in
theorem stillTexts_any (B : Nat) (p : Option Addr) (c : Nat) (ss : List ByteArray) (w : World) (hB : BK w B (.cells (ss.map Value.string ++ List.replicate 8 (Value.string spareT)).toArray 9 (0, 0))) (hv : SSo w p ss) (hn : ss.length ≤ 140737488351232) :
    Calls Tryz.prog 41 #[.slice (some ⟨B, 0, none⟩) ss.length (ss.length + 8), .slice p ss.length c] w fun e w' => e = .returned (.bool true) ∧ w' = w := by
  have HV := hide hv
  have HS := hide (spare_at hB)
  have hlt := hB.lt
  obtain ⟨n, hnn⟩ : ∃ n, n = ss.length := ⟨_, rfl⟩
  have HNN := hide hnn
  rw [← hnn] at hn ⊢
  clear hB hv hnn
  have h1 : ¬ (n : Int) + 8 < (n : Int) + 8 := by omega
  go_enter Tryz.func41, Tryz.ntmps41
  go_wp2_with fail
  go_loopg [7] (n + 8) (fun gk i wr => ∃ j : Nat, j + gk = n + 8 ∧ i = .int .i64 (j : Int) ∧ wr = w)
  case atStart => exact ⟨0, by omega, rfl, rfl⟩
  case round =>
    obtain ⟨j, hj, rfl, rfl⟩ := hrel
    cases gk with
    | zero =>
      have hno : ¬ (j : Int) < (n : Int) + 8 := by omega
      go_wp2_with fail
      go_ret
      exact ⟨rfl, rfl⟩
    | succ g =>
      have hlt8 : (j : Int) < (n : Int) + 8 := by omega
      have hlt9 : j < n + 8 := by omega
      by_cases hjn : j < n
      · have hjni : (j : Int) < (n : Int) := by omega
        obtain ⟨s, hs⟩ : ∃ s, ss[j]? = some s := ⟨_, List.getElem?_eq_getElem (by rw [← HNN.out]; exact hjn)⟩
        have hc1 := HS.out.1 j s hs
        obtain ⟨b, o, rfl, hb, hc2⟩ := HV.out j s hs
        clear hs
        go_wp2_with fail
        go_roundg g
        case measure => omega
        case rel => exact ⟨j + 1, by omega, by simp, rfl⟩
      · have hjni : ¬ (j : Int) < (n : Int) := by omega
        have hc1 := HS.out.2 j (by rw [← HNN.out]; omega) (by rw [← HNN.out]; omega)
        unfold spareT at hc1
        go_wp2_with fail
        go_roundg g
        case measure => omega
        case rel => exact ⟨j + 1, by omega, by simp, rfl⟩
end Go.Proofs.YtgmjjhmnchefbaaGreatDoor.G

/- What was handed in is as it was: rules. -/
namespace Go.Proofs.YtgmjjhmnchefbaaGreatDoor.G
open Go.RowKit

theorem range_ex {w w' : World} {b o : Nat} {cs : List Value} (h : w.rangeAt b o cs) (hx : Ex [] w.drew w') (hb : b < w.heap.size) : w'.rangeAt b o cs := fun j v hv => (hx.cell0.1 b _ hb).trans (h j v hv)
set_option maxHeartbeats 2000000 in
set_option maxRecDepth 100000 in
theorem alike_same (a : Int) (p q : Option Addr) (n c m d : Nat) (se re ta rp : ByteArray) (mo : Int) (w : World) :
    Calls Tryz.prog 42 #[.agg #[.int .i64 a, .slice p n c, .string se, .string re, .string ta, .string rp, .int .u64 mo], .agg #[.int .i64 a, .slice q m d, .string se, .string re, .string ta, .string rp, .int .u64 mo]] w fun e w' => e = .returned (.bool true) ∧ Ex [] w w' := by
  go_enter Tryz.func42, Tryz.ntmps42
  go_wp2_with fail
  go_ret
  exact ⟨by simp, ((Ex.refl _ _).alloc _).alloc _⟩
end Go.Proofs.YtgmjjhmnchefbaaGreatDoor.G
