/- G14 G18 G19, one behind the other. -/
import Derived.Test.YtmeffeigamaipaaDoorM16
set_option linter.unusedVariables false
set_option linter.unusedSimpArgs false
/- The pattern reader: expressions, to whatever depth. -/
namespace Go.Proofs.YtmeffeigamaipaaDoor.G
open Go.RowKit

set_option maxHeartbeats 4000000 in
set_option maxRecDepth 100000 in
theorem gExpr {w : World} {r mb : Nat} {t : ByteArray} {x : EV} {s : RS} {E : RS → Res Pt} (h : RG w r mb t x s) (hnp : NP t) (hg5 : s.g ≤ 5) (hd6 : s.d ≤ 6) (hE : s.d < 6 → EC t r mb x (s.d + 1) E) (hEi : EI E) :
    Calls Tryd.prog 31 #[.pointer (some ⟨r, 0, none⟩)] w fun e w' => Post [r, mb] r mb t x w (RP w.heap.size) (exprM t E s) e w' := by
  obtain ⟨i0, hi, hz0, hz1, hz2⟩ := info_parts infoPart
  have hlt := h.lt
  have hmlt := h.mlt
  have helt := h.elt
  have ht := h.ht
  have hne : w.heap.size ≠ r := by omega
  have H := hide h
  have HEI := hide hEi
  have KB : Hid (∀ (w : World) (s' : RS), RG w r mb t x s' → s'.g ≤ 5 → s'.d = s.d → Calls Tryd.prog 42 #[.pointer (some ⟨r, 0, none⟩)] w fun e w' => Post [r, mb] r mb t x w (fun w' v l => RP w.heap.size w' v (.seq l)) (branchM t E (t.size + 1) [] s') e w') :=
    fun w s' h hg hd => gBranch h hnp hg (by omega) (by rw [hd]; exact hE) hEi
  clear h hnp hE hEi
  go_enter Tryd.func31, Tryd.ntmps31
  go_wp2_with fail
  refine (KB.out _ s (H.out.alloc _) hg5 rfl).mono ?_
  rintro e w1 hp
  rcases hp.split with ⟨l0, s1, v, hm, rfl, hRP, hg1, hx1⟩ | ⟨s9, hm, rfl, hg, hx⟩
  rotate_left
  · exact body_panic rfl (Post.mkBad (by unfold exprM; rw [hm]; rfl) hg (((Ex.refl _ _).alloc _).trans hx))
  obtain ⟨u, rfl, hpr⟩ := hRP
  obtain ⟨hk1, hd1, _, hg15⟩ := branchM_ok HEI.out _ _ _ _ _ hg5 hm
  obtain ⟨R, hR⟩ : ∃ R, altM t E (t.size + 1) [.seq l0] s1 = R := ⟨_, rfl⟩
  have HR := hide hR
  have HM1 : Hid (exprM t E s = R.bind fun b s2 => .ok (.alt b) s2) := by show exprM t E s = _; unfold exprM; rw [hm, Res.bind_ok, hR]
  have HD1 := hide hd1
  have G1 := hide hg1
  have X1 := hide hx1
  have hle1 : w.heap.size + 1 ≤ w1.heap.size := by have := hx1.size; simpa using this
  have HPR := hide hpr
  have hk1t := hg1.hk
  obtain ⟨kd, up, un, uc, ulo, uhi, uhg, ug, ul, um, uz⟩ := u
  clear hp hm hg1 hx1 hd1 hpr hR
  unfold PV.val
  go_wp2_with fail
  go_loopg [3] t.size (fun gk v3 wr => ∃ (acc : List Pt) (us : List PV) (s' : RS), altM t E (gk + 1) acc s' = R ∧ t.size - s'.k ≤ gk ∧ acc.length ≤ s'.k + 1 ∧ RG wr r mb t x s' ∧ s'.g ≤ 5 ∧ s'.d = s.d ∧ wr.ownsRow (w.heap.size + 1) 59 9 v3 acc.length (us.flatMap PV.cells) ∧ AllPR wr (Bx (w.heap.size + 1) wr.heap.size v3) acc us ∧ Ex [r, mb] (w.alloc (Obj.cells #[.int .i64 0, .slice none 0 0, .int .u64 0, .int .u64 0, .bool false, .int .i64 0, .int .i64 0, .int .i64 0, .bool false] 59)) wr)
  case atStart =>
    refine ⟨[.seq l0], [⟨kd, up, un, uc, ulo, uhi, uhg, ug, ul, um, uz⟩], s1, HR.out, by omega, by simp, G1.out.alloc _, hg15, HD1.out, ?_, ⟨?_, trivial⟩, X1.out.alloc _⟩
    · refine ⟨by simp [PV.cells], .inr ⟨w1.heap.size, 1, #[.int .i64 kd, .slice up un uc, .int .u64 ulo, .int .u64 uhi, .bool uhg, .int .i64 ug, .int .i64 ul, .int .i64 um, .bool uz], rfl, by omega, BK.new _ _, by simp, by unfold maxLen; omega, by simp, by simp [PV.cells]⟩⟩
    · refine PR.frame ?_ (by simp) ?_ _ _ HPR.out
      · intro b hb
        have h1 := hb.1
        have h2 := hb.2
        simp at h1
        exact ⟨h1, by simp; omega, fun e => by simp [Value.ownBlock] at e; omega⟩
      · intro b hb hl
        exact Below.heap_alloc _ _ _ hl
  case round =>
    obtain ⟨acc, us, s', hRc, hfu, hal, hg, hsg, hsd, hown, hall, hx⟩ := hrel
    have HX := hide hx
    have HRC := hide hRc
    have HG := hide hg
    have HALL := hide hall
    have HO := hide hown
    have HSD := hide hsd
    have hsk := hg.hk
    have hzr : w.heap.size + 1 ≤ wr.heap.size := by have := hx.size; simpa using this
    obtain ⟨p3, c3, rfl⟩ := own_slice hown
    clear hx hRc hg hall hown hsd
    go_wp2_with fail
    refine (gTakes HG.out 124 124 rfl).mono ?_
    rintro e w2 ⟨rfl, hg2, hx2⟩
    have X2 : Hid (Ex [r] wr w2) := hx2
    have hle2 := hx2.size
    cases hq : seesM t s' 124 with
    | false =>
      rw [took_no hq] at hg2
      have G2 := hide hg2
      have MR : Hid (exprM t E s = .ok (.alt acc) s') := by show exprM t E s = _; rw [HM1.out, ← HRC.out]; unfold altM; rw [if_neg (by simp [hq])]; rfl
      clear hq hg2 hx2
      have HXX := hide (HX.out.trans (X2.out.drop (by simp)))
      have BR := hide ((BK.new w (Obj.cells #[.int .i64 0, .slice none 0 0, .int .u64 0, .int .u64 0, .bool false, .int .i64 0, .int .i64 0, .int .i64 0, .bool false] 59)).ex HXX.out (by simp; omega))
      have HAL : Hid ((#[.int .i64 2, .slice p3 acc.length c3, .int .u64 0, .int .u64 0, .bool false, .int .i64 0, .int .i64 0, .int .i64 0, .bool false] : Array Value).all (·.oneCell') = true) := by show Array.all _ _ = true; simp [Value.oneCell']
      have HSZ : Hid ((Tryd.prog.info? 59).map (·.size) = some (#[.int .i64 2, .slice p3 acc.length c3, .int .u64 0, .int .u64 0, .bool false, .int .i64 0, .int .i64 0, .int .i64 0, .bool false] : Array Value).size) := partSize
      go_wp2_with (refine wpList_store_row rfl 59 _ _ rfl w.heap.size #[.int .i64 2, .slice p3 acc.length c3, .int .u64 0, .int .u64 0, .bool false, .int .i64 0, .int .i64 0, .int .i64 0, .bool false] rfl rfl 59 _ BR.out HSZ.out rfl HAL.out ?_)
      refine bodyPost_ret (results_cell1 rfl rfl (loadPart (S := [.int .i64 2, .slice p3 acc.length c3, .int .u64 0, .int .u64 0, .bool false, .int .i64 0, .int .i64 0, .int .i64 0, .bool false]) (setRow_heap _ _ _ _ _ _ BR.out) rfl)) rfl (Post.mkOk MR.out ?_ ?_ ?_)
      · generalize hW : World.setRow _ _ _ = W
        have hWx : Ex [r, w.heap.size] wr W := by rw [← hW]; exact (X2.out.drop (by simp)).setRow (Or.inl (by simp)) _
        obtain ⟨p, c, hv, hrow⟩ := rowPart (W := W) HO.out HALL.out (fun b hb hlt => hWx.block b hlt (by simp; omega)) hWx.size hWx.size (lo' := w.heap.size) (by omega)
        cases hv
        exact ⟨⟨2, p3, acc.length, c3, 0, 0, false, 0, 0, 0, false⟩, rfl, p3, acc.length, c3, rfl, rfl, hrow⟩
      · exact RG.row G2.out hlt hmlt helt (Nat.le_refl _) _
      · exact Ex.row (((Ex.refl _ _).alloc _).trans HXX.out) (Nat.le_refl _) _
    | true =>
    rw [took_yes hq] at hg2
    have hsl := sees_lt hq
    have G2 := hide hg2
    have HRN : Hid (R = (branchM t E (t.size + 1) [] s'.up).bind fun l s'' => altM t E gk (acc ++ [.seq l]) s'') := by
      show R = _
      rw [← HRC.out]
      conv => lhs; unfold altM
      rw [if_pos hq]
    clear hq hg2 hx2
    go_wp2_with fail
    refine (KB.out _ s'.up G2.out hsg HSD.out).mono ?_
    rintro e w4 hp
    rcases hp.split with ⟨lq, s4, v, hm, rfl, hRP, hg4, hx4⟩ | ⟨s9, hm, rfl, hg, hx⟩
    rotate_left
    · exact body_panic rfl (Post.mkBad (by rw [HM1.out, HRN.out, hm]; rfl) hg (((Ex.refl _ _).alloc _).trans (HX.out.trans ((X2.out.drop (by simp)).trans hx))))
    obtain ⟨u, rfl, hpr⟩ := hRP
    obtain ⟨hk4, hd4, _, hg45⟩ := branchM_ok HEI.out _ _ _ _ _ (by exact hsg) hm
    have hk4' : s'.k + 1 ≤ s4.k := hk4
    have hkt := hg4.hk
    obtain ⟨g, rfl⟩ : ∃ g, gk = g + 1 := ⟨gk - 1, by omega⟩
    have HRB : Hid (altM t E (g + 1) (acc ++ [.seq lq]) s4 = R) := by show _ = R; rw [HRN.out, hm]; rfl
    have HD4 : Hid (s4.d = s.d) := by show s4.d = s.d; rw [hd4]; exact HSD.out
    have G4 := hide hg4
    have X4 : Hid (Ex [r, mb] wr w4) := (X2.out.drop (by simp)).trans hx4
    have hle4 : wr.heap.size ≤ w4.heap.size := X4.out.size
    have HPR := hide hpr
    have HU := hide u.all_one
    obtain ⟨xs, hxs⟩ : ∃ xs, us.flatMap PV.cells = xs := ⟨_, rfl⟩
    have HXS := hide hxs
    rw [hxs] at HO
    have hown4 := own_ex HO.out X4.out (by simp; omega)
    have hownB : ∀ k, (Value.slice p3 acc.length c3).ownBlock = some k → w.heap.size + 1 ≤ k ∧ k < wr.heap.size := fun k hk => HO.out.lt k hk
    have HOB := hide hownB
    obtain ⟨n, hn⟩ : ∃ n, acc.length = n := ⟨_, rfl⟩
    have HNN := hide hn
    rw [hn] at hown4 HO HOB hal ⊢
    have HALL2 := HALL
    rw [hn] at HALL2
    clear hp hm hg4 hx4 hd4 hpr hxs hownB hn HALL
    obtain ⟨kd, up, un, uc, ulo, uhi, uhg, ug, ul, um, uz⟩ := u
    unfold PV.val
    unfold PV.cells at HU
    have H4 := hide hown4
    clear hown4
    go_wp2_with (at_builtin; refine wpList_append_lies _ rfl (.tmp 9) (.tmp 12) 53 rfl (w.heap.size + 1) 59 i0 (.agg #[.int .i64 0, .slice none 0 0, .int .u64 0, .int .u64 0, .bool false, .int .i64 0, .int .i64 0, .int .i64 0, .bool false]) 9 88 Tryd.underlying53 hi hz0 hz1 hz2 rfl (by decide) (.slice p3 n c3) n xs rfl (H4.out.alloc _) ⟨w4.heap.size, 0, none⟩ 1 1 [.int .i64 kd, .slice up un uc, .int .u64 ulo, .int .u64 uhi, .bool uhg, .int .i64 ug, .int .i64 ul, .int .i64 um, .bool uz] rfl rfl (cells_new _ _ _) HU.out (by decide) (by unfold maxLen; omega) (by omega) (by simp; omega) (w4.heap.size + 1) (by simp) ?_)
    intro gb cap w5 hown5 hgrow hcase hlt5
    have hob5 := own_block hown5
    have HO5 := hide hown5
    have HGR := hide hgrow
    have HCA := hide hcase
    clear hown5 hgrow hcase
    go_wp2
    go_roundg g
    case measure => omega
    case rel =>
      have hx5 : ∀ b, b < w4.heap.size → (Value.slice p3 n c3).ownBlock ≠ some b → w5.heap[b]? = w4.heap[b]? := fun b hb hn => by
        rw [HGR.out.block b (by simp; omega) (fun e => hn e.symm)]
        exact Below.heap_alloc _ _ _ hb
      have hsz5 : w4.heap.size + 1 ≤ w5.heap.size := by have := HGR.out.size; simpa using this
      have hgb : ∀ b, b < w4.heap.size → (Value.slice p3 n c3).ownBlock ≠ some b → gb ≠ b := fun b hb hn e => by
        rcases HCA.out with h1 | h1
        · exact hn (by rw [h1, e])
        · omega
      refine ⟨acc ++ [.seq lq], us ++ [⟨kd, up, un, uc, ulo, uhi, uhg, ug, ul, um, uz⟩], s4, HRB.out, by omega, by simp; have := HNN.out; omega, ?_, hg45, HD4.out, ?_, ?_, ?_⟩
      · have hxg : Ex ((Value.slice p3 n c3).ownBlock).toList w4 w5 := Ex.grown ((Ex.refl _ _).alloc _) HGR.out (fun k hk => Or.inl (by simp [hk]))
        refine RG.ex G4.out hxg (fun hm => ?_) (fun hm => ?_) (fun hm => ?_)
        all_goals
          have h9 := HOB.out _ (by simpa using hm)
          omega
      · have h9 := HO5.out
        rw [← HXS.out] at h9
        rw [List.length_append, HNN.out, List.flatMap_append]
        simpa [PV.cells] using h9
      · refine AllPR.snoc ?_ acc us ?_
        · refine PR.frame ?_ (by omega) ?_ _ _ HPR.out
          · intro b hb
            have h1 := hb.1
            have h2 := hb.2
            have hnb : (Value.slice p3 n c3).ownBlock ≠ some b := fun e => by have := HOB.out b e; omega
            refine ⟨by omega, by omega, ?_⟩
            intro e
            exact hgb b h2 hnb (Option.some.inj e)
          · intro b hb hl
            have h1 := hb.1
            exact hx5 b hl (fun e => by have := HOB.out b e; omega)
        · refine AllPR.frame ?_ (by omega) ?_ acc us HALL2.out
          · intro b hb
            exact ⟨hb.1, by have := hb.2.1; omega, fun e => hgb b (by have := hb.2.1; omega) hb.2.2 (Option.some.inj e)⟩
          · intro b hb hl
            rw [hx5 b (by omega) hb.2.2]
            exact X4.out.block b hl (by have := hb.1; simp; omega)
      · exact Ex.grown ((HX.out.trans X4.out).alloc _) HGR.out (fun j hj => Or.inr (by have := HOB.out j hj; simp; omega))

theorem gExprAt {r mb : Nat} {t : ByteArray} {x : EV} (hnp : NP t) : ∀ (n d : Nat), d + n = 7 → 0 < n → EC t r mb x d (exprAt t n)
  | 0, _, _, h0 => absurd h0 (Nat.lt_irrefl _)
  | n + 1, d, hd, _ => by
    intro w s h hg hsd
    refine gExpr h hnp hg (by omega) (fun h6 => ?_) (exprAt_ok t n)
    rw [hsd]
    exact gExprAt hnp n (d + 1) (by omega) (by omega)
end Go.Proofs.YtmeffeigamaipaaDoor.G

/- The weight of a part, whatever it is. -/
namespace Go.Proofs.YtmeffeigamaipaaDoor.G
open Go.RowKit

mutual
def wt : Pt → Nat
  | .single _ => 1
  | .seq l => wtL l
  | .alt l => wtL l + l.length - 1
  | .wrap q _ => wt q + 1
  | .count q le mo _ => wt q * (if mo = -1 then le + 1 else mo.toNat) + 1
def wtL : List Pt → Nat
  | [] => 0
  | q :: l => wt q + wtL l
end
mutual
def WOK : Pt → Prop
  | .single _ => True
  | .seq l => WOKL l ∧ wtL l < 1000000000000000000 ∧ l.length < 1000000000000000000
  | .alt l => WOKL l ∧ wtL l < 1000000000000000000 ∧ l.length < 1000000000000000000 ∧ 1 ≤ l.length
  | .wrap q k => WOK q ∧ wt q < 1000000000000000000 ∧ k < 1000000
  | .count q le mo _ => WOK q ∧ wt q < 1000000000000000000 ∧ (le : Int) < 1000000000000000000 ∧ -1 ≤ mo ∧ mo < 1000000000000000000 ∧ wt q * (if mo = -1 then le + 1 else mo.toNat) < 1000000000000000000
def WOKL : List Pt → Prop
  | [] => True
  | q :: l => WOK q ∧ WOKL l
end

theorem wtL_append (a b : List Pt) : wtL (a ++ b) = wtL a + wtL b := by
  induction a with
  | nil => simp [wtL]
  | cons q a ih => simp only [List.cons_append, wtL, ih]; omega
theorem WOKL_mem {l : List Pt} (h : WOKL l) : ∀ q, q ∈ l → WOK q := by
  induction l with
  | nil => simp
  | cons a l ih =>
    intro q hq
    rcases List.mem_cons.1 hq with rfl | hq
    · exact h.1
    · exact ih h.2 q hq
theorem wtL_take (l : List Pt) (j : Nat) (hj : j < l.length) : wtL (l.take (j + 1)) = wtL (l.take j) + wt l[j] := by
  rw [List.take_succ_eq_append_getElem hj, wtL_append]
  simp [wtL]
theorem wtL_take_le (l : List Pt) (j : Nat) : wtL (l.take j) ≤ wtL l := by
  have := wtL_append (l.take j) (l.drop j)
  rw [List.take_append_drop] at this
  omega

def kids : Pt → List Pt
  | .single _ => []
  | .seq l => l
  | .alt l => l
  | .wrap q _ => [q]
  | .count q _ _ _ => [q]
def kindOf : Pt → Int
  | .single _ => 0
  | .seq _ => 1
  | .alt _ => 2
  | .wrap _ _ => 3
  | .count _ _ _ _ => 4

theorem PRL.at {w : World} {B : Nat → Prop} {g : Nat} : ∀ {l : List Pt} {i : Nat}, PRL w B g l i → ∀ (j : Nat) (hj : j < l.length), ∃ u, w.rangeAt g ((i + j) * 9) u.cells ∧ PR w B l[j] u
  | [], _, _, j, hj => by simp at hj
  | q :: l, i, h, 0, _ => by simpa using h.1
  | q :: l, i, h, j + 1, hj => by
    have := PRL.at h.2 j (by simpa using hj)
    rw [show i + 1 + j = i + (j + 1) by omega] at this
    simpa using this

def Row (w : World) (B : Nat → Prop) (v : PV) (l : List Pt) : Prop := v.n = l.length ∧ ((v.p = none ∧ v.n = 0 ∧ v.c = 0) ∨ ∃ g, v.p = some ⟨g, 0, none⟩ ∧ v.n ≤ v.c ∧ B g ∧ g < w.heap.size ∧ PRL w B g l 0)
theorem Row.frame {w w' : World} {B : Nat → Prop} {v : PV} {l : List Pt} (h : Row w B v l) (hx : Ex [] w w') : Row w' B v l := by
  refine ⟨h.1, h.2.imp id ?_⟩
  rintro ⟨g, hp, hc, hg, hl, hr⟩
  exact ⟨g, hp, hc, hg, Nat.lt_of_lt_of_le hl hx.size, PRL.frame (fun _ h => h) hx.size (fun b _ hlt => hx.block b hlt (by simp)) g hg hl l 0 hr⟩
theorem PR.row {w : World} {B : Nat → Prop} : ∀ {q : Pt} {v : PV}, PR w B q v → Row w B v (kids q) ∧ v.kd = kindOf q
  | .single c, v, h => by
    have h : v = _ := h
    subst h
    exact ⟨⟨rfl, .inl ⟨rfl, rfl, rfl⟩⟩, rfl⟩
  | .seq l, v, h => by
    obtain ⟨p, n, c, rfl, hn, hr⟩ := h
    exact ⟨⟨hn, hr⟩, rfl⟩
  | .alt l, v, h => by
    obtain ⟨p, n, c, rfl, hn, hr⟩ := h
    exact ⟨⟨hn, hr⟩, rfl⟩
  | .wrap q k, v, h => by
    obtain ⟨g, rfl, hg, hl, u, hr, hq⟩ := h
    exact ⟨⟨rfl, .inr ⟨g, rfl, Nat.le_refl _, hg, hl, ⟨⟨u, by simpa using hr, hq⟩, trivial⟩⟩⟩, rfl⟩
  | .count q le mo la, v, h => by
    obtain ⟨g, rfl, hg, hl, u, hr, hq⟩ := h
    exact ⟨⟨rfl, .inr ⟨g, rfl, Nat.le_refl _, hg, hl, ⟨⟨u, by simpa using hr, hq⟩, trivial⟩⟩⟩, rfl⟩
theorem Row.at {w : World} {B : Nat → Prop} {v : PV} {l : List Pt} (h : Row w B v l) (j : Nat) (hj : j < l.length) : ∃ g u, v.p = some ⟨g, 0, none⟩ ∧ v.n ≤ v.c ∧ B g ∧ g < w.heap.size ∧ w.rangeAt g (j * 9) u.cells ∧ PR w B l[j] u := by
  rcases h.2 with ⟨_, h0, _⟩ | ⟨g, hp, hc, hg, hl, hr⟩
  · have := h.1
    omega
  · obtain ⟨u, hu, hq⟩ := hr.at j hj
    exact ⟨g, u, hp, hc, hg, hl, by simpa using hu, hq⟩

def copiesI (l m : Int) : Int := if m = -1 then l + 1 else m
set_option maxHeartbeats 1000000 in
set_option maxRecDepth 100000 in
theorem copies_any (v : PV) (w : World) (hl : 0 ≤ v.l ∧ v.l < 1000000000000000000) :
    Calls Tryd.prog 33 #[v.val] w fun e w' => e = .returned (.int .i64 (copiesI v.l v.m)) ∧ Ex [] w w' := by
  obtain ⟨kd, p, n, c, lo, hi, hg, g, l, m, z⟩ := v
  simp only at hl
  unfold PV.val
  dsimp only
  by_cases hm : m = -1
  · subst hm
    go_enter Tryd.func33, Tryd.ntmps33
    go_wp2_with fail
    go_ret
    exact ⟨by simp [copiesI], (Ex.refl _ _).alloc _⟩
  · go_enter Tryd.func33, Tryd.ntmps33
    go_wp2_with fail
    go_ret
    exact ⟨by simp [copiesI, hm], (Ex.refl _ _).alloc _⟩
end Go.Proofs.YtmeffeigamaipaaDoor.G

/- The weight of a part, whatever it is: the walk. -/
namespace Go.Proofs.YtmeffeigamaipaaDoor.G
open Go.RowKit

def wtKind (kd : Int) (s n : Nat) (l m : Int) : Int :=
  if kd = 0 then s + 1 else if kd = 3 then s + 1 else if kd = 2 then s + n - 1 else if kd = 4 then s * copiesI l m + 1 else s

set_option maxHeartbeats 1000000 in
set_option maxRecDepth 100000 in
theorem weight_row (v : PV) (ks : List Pt) (B : Nat → Prop) (w : World) (hrow : Row w B v ks) (hkd : v.kd = 0 ∨ v.kd = 1 ∨ v.kd = 2 ∨ v.kd = 3 ∨ v.kd = 4)
    (hlen : ks.length < 1000000000000000000) (hsum : wtL ks < 1000000000000000000) (hl : 0 ≤ v.l ∧ v.l < 1000000000000000000) (hm : -1 ≤ v.m ∧ v.m < 1000000000000000000) (hpr : v.kd = 4 → (wtL ks : Int) * copiesI v.l v.m < 1000000000000000000)
    (ih : ∀ q, q ∈ ks → ∀ u w, PR w B q u → Calls Tryd.prog 18 #[u.val] w fun e w' => e = .returned (.int .i64 (wt q)) ∧ Ex [] w w') :
    Calls Tryd.prog 18 #[v.val] w fun e w' => e = .returned (.int .i64 (wtKind v.kd (wtL ks) ks.length v.l v.m)) ∧ Ex [] w w' := by
  obtain ⟨kd, p, n, c, lo, hi, hg, gr, l, m, z⟩ := v
  simp only at hkd hl hm hpr
  have hn : n = ks.length := hrow.1
  subst hn
  have HR := hide hrow
  have HIH := hide ih
  have HP := hide hpr
  have HK := hide hkd
  clear hrow ih hpr hkd
  unfold PV.val
  dsimp only
  go_enter Tryd.func18, Tryd.ntmps18
  go_wp2_with fail
  go_loopg [3, 9] ks.length (fun gk s i wr => ∃ j : Nat, j + gk = ks.length ∧ s = .int .i64 (wtL (ks.take j)) ∧ i = .int .i64 j ∧ Ex [] (w.alloc (Obj.cells #[.int .i64 kd, .slice p ks.length c, .int .u64 lo, .int .u64 hi, .bool hg, .int .i64 gr, .int .i64 l, .int .i64 m, .bool z] 59)) wr)
  case atStart => exact ⟨0, by omega, by simp [wtL], rfl, Ex.refl _ _⟩
  case round =>
    obtain ⟨j, hj, rfl, rfl, hx⟩ := hrel
    have HX := hide hx
    have hA : BK wr w.heap.size (.cells #[.int .i64 kd, .slice p ks.length c, .int .u64 lo, .int .u64 hi, .bool hg, .int .i64 gr, .int .i64 l, .int .i64 m, .bool z] 59) := (BK.new _ _).ex hx (by simp)
    obtain ⟨hcA, hfA⟩ := hA.all
    cases gk with
    | zero =>
      obtain rfl : j = ks.length := by omega
      have HA := hide hA
      clear hx hA hj
      obtain ⟨s, hs⟩ : ∃ s, s = wtL (ks.take ks.length) := ⟨_, rfl⟩
      rw [← hs]
      have HS := hide (show s = wtL ks by rw [hs, List.take_length])
      have hsum' : s < 1000000000000000000 := by rw [HS.out]; exact hsum
      clear hs hsum
      rcases HK.out with rfl | rfl | rfl | rfl | rfl
      · go_wp2_with fail
        go_ret
        exact ⟨by simp [wtKind, HS.out], ((Ex.refl _ _).alloc _).trans HX.out⟩
      · go_wp2_with fail
        go_ret
        exact ⟨by simp [wtKind, HS.out], ((Ex.refl _ _).alloc _).trans HX.out⟩
      · go_wp2_with fail
        go_ret
        exact ⟨by simp [wtKind, HS.out], ((Ex.refl _ _).alloc _).trans HX.out⟩
      · go_wp2_with fail
        go_ret
        exact ⟨by simp [wtKind, HS.out], ((Ex.refl _ _).alloc _).trans HX.out⟩
      · have hcop := copies_any ⟨4, p, ks.length, c, lo, hi, hg, gr, l, m, z⟩ wr hl
        unfold PV.val at hcop
        dsimp only at hcop
        go_wp2_with fail
        refine hcop.mono ?_
        rintro e w1 ⟨rfl, hx1⟩
        have HX1 := hide hx1
        have hp := HP.out (by first | exact rfl | trivial)
        rw [← HS.out] at hp
        have hc0 : 0 ≤ copiesI l m := by unfold copiesI; split <;> omega
        obtain ⟨k, hk⟩ : ∃ k, k = copiesI l m := ⟨_, rfl⟩
        rw [← hk] at hp hc0 ⊢
        have hp0 : (0 : Int) ≤ s * k := Int.mul_nonneg (by omega) hc0
        have HKK := hide hk
        clear hx1 hk
        go_wp2_with fail
        go_ret
        exact ⟨by simp [wtKind, HS.out, HKK.out], (((Ex.refl _ _).alloc _).trans HX.out).trans HX1.out⟩
    | succ g =>
      have hj' : ((j : Int) < (ks.length : Int)) := by omega
      obtain ⟨g1, u, hv, hnc, hB, hlt, hrange, hq⟩ := ((HR.out.frame ((Ex.refl _ _).alloc _)).frame hx).at j (show j < ks.length by omega)
      simp only at hv
      subst hv
      have HQ := hide hq
      clear hx hA hq hB
      obtain ⟨kd', p', n', c', lo', hi', hg', gr', l', m', z'⟩ := u
      have k0 := hrange 0 _ rfl; have k1 := hrange 1 _ rfl; have k2 := hrange 2 _ rfl; have k3 := hrange 3 _ rfl; have k4 := hrange 4 _ rfl
      have k5 := hrange 5 _ rfl; have k6 := hrange 6 _ rfl; have k7 := hrange 7 _ rfl; have k8 := hrange 8 _ rfl
      simp only [Nat.add_zero] at k0
      clear hrange
      simp only at hnc
      obtain ⟨s, hs⟩ : ∃ s, s = wtL (ks.take j) := ⟨_, rfl⟩
      obtain ⟨s', hs'⟩ : ∃ s', s' = wt ks[j] := ⟨_, rfl⟩
      have hs2 : wtL (ks.take (j + 1)) = s + s' := by rw [wtL_take ks j (by omega), hs, hs']
      have hs3 : s + s' < 1000000000000000000 := by have := wtL_take_le ks (j + 1); omega
      have HS2 := hide hs2
      have HS' := hide hs'
      rw [← hs]
      clear hs hs' hs2
      go_wp2_with fail
      refine (HIH.out ks[j] (List.getElem_mem _) ⟨kd', p', n', c', lo', hi', hg', gr', l', m', z'⟩ _ (HQ.out.frame (fun _ h => h) ((Ex.refl [] wr).alloc _).size (fun b _ hlt => ((Ex.refl [] wr).alloc _).block b hlt (by simp)) _ _)).mono ?_
      rintro e w1 ⟨rfl, hx1⟩
      have HX1 := hide hx1
      rw [← HS'.out]
      clear hx1 k0 k1 k2 k3 k4 k5 k6 k7 k8
      go_wp2_with fail
      go_roundg g
      case measure => omega
      case rel => exact ⟨j + 1, by omega, by simp [HS2.out], by simp, (HX.out.alloc _).trans HX1.out⟩


theorem kids_lt (q : Pt) : ∀ x, x ∈ kids q → SizeOf.sizeOf x < SizeOf.sizeOf q := by
  intro x hx
  cases q with
  | single c => simp [kids] at hx
  | seq l => have := List.sizeOf_lt_of_mem (show x ∈ l from hx); simp; omega
  | alt l => have := List.sizeOf_lt_of_mem (show x ∈ l from hx); simp; omega
  | wrap q k => simp [kids] at hx; subst hx; simp; omega
  | count q a b c => simp [kids] at hx; subst hx; simp; omega

theorem weight_any (B : Nat → Prop) : ∀ (q : Pt) (v : PV) (w : World), PR w B q v → WOK q →
    Calls Tryd.prog 18 #[v.val] w fun e w' => e = .returned (.int .i64 (wt q)) ∧ Ex [] w w' := by
  have key : ∀ (n : Nat) (q : Pt), SizeOf.sizeOf q < n → ∀ (v : PV) (w : World), PR w B q v → WOK q →
      Calls Tryd.prog 18 #[v.val] w fun e w' => e = .returned (.int .i64 (wt q)) ∧ Ex [] w w' := by
    intro n
    induction n with
    | zero => intro q hq; omega
    | succ n ih =>
      intro q hq v w hp hw
      obtain ⟨hrow, hkd⟩ := hp.row
      have hok : ∀ x, x ∈ kids q → WOK x := by
        cases q with
        | single c => simp [kids]
        | seq l => exact WOKL_mem hw.1
        | alt l => exact WOKL_mem hw.1
        | wrap q k => intro x hx; simp [kids] at hx; subst hx; exact hw.1
        | count q a b c => intro x hx; simp [kids] at hx; subst hx; exact hw.1
      have ih' : ∀ x, x ∈ kids q → ∀ u w, PR w B x u → Calls Tryd.prog 18 #[u.val] w fun e w' => e = .returned (.int .i64 (wt x)) ∧ Ex [] w w' :=
        fun x hx u w hu => ih x (by have := kids_lt q x hx; omega) u w hu (hok x hx)
      cases q with
      | single c =>
        have h : v = _ := hp
        subst h
        refine (weight_row _ [] B w hrow (.inl rfl) (by simp) (by simp [wtL]) (by simp) (by simp) (by simp) ih').mono ?_
        rintro e w' ⟨rfl, hx⟩
        exact ⟨by simp [wtKind, wtL, wt], hx⟩
      | seq l =>
        obtain ⟨p, n, c, rfl, hn, hr⟩ := hp
        refine (weight_row _ l B w hrow (.inr (.inl rfl)) hw.2.2 hw.2.1 (by simp) (by simp) (by simp) ih').mono ?_
        rintro e w' ⟨rfl, hx⟩
        exact ⟨by simp [wtKind, wt], hx⟩
      | alt l =>
        obtain ⟨p, n, c, rfl, hn, hr⟩ := hp
        refine (weight_row _ l B w hrow (.inr (.inr (.inl rfl))) hw.2.2.1 hw.2.1 (by simp) (by simp) (by simp) ih').mono ?_
        rintro e w' ⟨rfl, hx⟩
        have := hw.2.2.2
        refine ⟨?_, hx⟩
        simp only [wtKind, wt]
        congr 2
        simp
        omega
      | wrap q k =>
        obtain ⟨g, rfl, hr⟩ := hp
        refine (weight_row _ [q] B w hrow (.inr (.inr (.inr (.inl rfl)))) (by simp) (by simp only [wtL]; exact hw.2.1) (by simp) (by simp) (by simp) ih').mono ?_
        rintro e w' ⟨rfl, hx⟩
        exact ⟨by simp [wtKind, wtL, wt], hx⟩
      | count q le mo la =>
        obtain ⟨g, rfl, hr⟩ := hp
        obtain ⟨h1, h2, h3, h4, h5, h6⟩ := hw
        have hc : copiesI (le : Int) mo = ((if mo = -1 then le + 1 else mo.toNat : Nat) : Int) := by
          unfold copiesI
          split <;> omega
        refine (weight_row _ [q] B w hrow (.inr (.inr (.inr (.inr rfl)))) (by simp) (by simp only [wtL]; exact h2) ⟨by simp, h3⟩ ⟨h4, h5⟩ (fun _ => by
          dsimp only
          rw [hc]
          simp only [wtL, Nat.add_zero]
          have h7 := Int.ofNat_lt.2 h6
          rw [Int.natCast_mul] at h7
          exact h7) ih').mono ?_
        rintro e w' ⟨rfl, hx⟩
        refine ⟨?_, hx⟩
        simp only [wtKind, wt, wtL, hc]
        congr 2
        try simp
  exact fun q v w => key (SizeOf.sizeOf q + 1) q (by omega) v w
end Go.Proofs.YtmeffeigamaipaaDoor.G
