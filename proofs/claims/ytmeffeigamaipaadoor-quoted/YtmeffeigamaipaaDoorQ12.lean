/- The contract of quoted. -/
import Derived.Test.YtmeffeigamaipaaDoorQ11
import Derived.Test.YtmeffeigamaipaaDoorW23
set_option linter.unusedVariables false
set_option linter.unusedSimpArgs false
namespace Go.Proofs.YtmeffeigamaipaaDoor.Q
open Go.RowKit

/-- A text, quoted. -/
def qL (l : List UInt8) : List UInt8 := l.flatMap fun b => if b ∈ specL then [92, b] else [b]
theorem qL_snoc (l : List UInt8) (b : UInt8) : qL (l ++ [b]) = qL l ++ (if b ∈ specL then [92, b] else [b]) := by
  simp [qL, List.flatMap_append]
theorem qL_len (l : List UInt8) : (qL l).length ≤ 2 * l.length := by
  induction l with
  | nil => simp [qL]
  | cons b l ih =>
    have h1 : qL (b :: l) = (if b ∈ specL then [92, b] else [b]) ++ qL l := rfl
    rw [h1, List.length_append]
    have h2 : (if b ∈ specL then [92, b] else [b]).length ≤ 2 := by split <;> simp
    simp only [List.length_cons]
    omega
theorem list_app (a b : ByteArray) : (a ++ b).data.toList = a.data.toList ++ b.data.toList := by
  rw [ByteArray.data_append]; simp
theorem list_one (s : ByteArray) (i : Nat) (h : i < s.size) : (s.extract i (i + 1)).data.toList = [s[i]] := by
  have hl : i < s.data.toList.length := by rw [← Lib.size_eq]; exact h
  rw [Lib.extract_data, show i + 1 - i = 1 by omega, List.drop_eq_getElem_cons hl]
  rfl
theorem take_snoc (l : List UInt8) (i : Nat) (h : i < l.length) : l.take (i + 1) = l.take i ++ [l[i]] := by
  rw [List.take_add_one, List.getElem?_eq_getElem h]; rfl
theorem spec_take (k : Nat) (h : k < specL.length) (b : UInt8) : b ∈ specL.take (k + 1) ↔ b ∈ specL.take k ∨ b = specL[k] := by
  rw [take_snoc _ _ h]; simp only [List.mem_append, List.mem_singleton]
theorem spec_once : ∀ k : Fin 14, specL[k.val]'k.isLt ∉ specL.take k.val := by decide +kernel

set_option maxHeartbeats 1000000 in
set_option maxRecDepth 100000 in
theorem quoted_any (s : ByteArray) (w : World) (hs : s.size ≤ 20) : Calls Tryd.prog 11 #[.string s] w fun e w' => (∃ q : ByteArray, e = .returned (.string q) ∧ q.data.toList = qL s.data.toList) ∧ ∃ n, w' = w.drewN n := by
  have hlen : s.data.toList.length = s.size := (Lib.size_eq s).symm
  go_enter Tryd.func11, Tryd.ntmps11
  go_wp2_with fail
  go_loopg [3, 4] s.size (fun gk o3 i4 wr => ∃ (i : Nat) (o : ByteArray), i + gk = s.size ∧ o3 = .string o ∧ i4 = .int .i64 i ∧ o.data.toList = qL (s.data.toList.take i) ∧ ∃ n, wr = w.drewN n)
  case atStart => exact ⟨0, ⟨#[]⟩, by omega, rfl, rfl, by simp [qL], 0, rfl⟩
  case round =>
    obtain ⟨i, o, hgi, rfl, rfl, ho, n0, rfl⟩ := hrel
    have HO := hide ho
    have hos : o.size ≤ 2 * i := by
      rw [Lib.size_eq, ho]
      have h1 := qL_len (s.data.toList.take i)
      rw [List.length_take] at h1
      omega
    clear ho
    cases gk with
    | zero =>
      obtain rfl : i = s.size := by omega
      go_wp2_with fail
      go_ret
      refine ⟨⟨o, rfl, ?_⟩, n0, rfl⟩
      rw [HO.out, ← hlen, List.take_length]
    | succ g =>
      have hi : i < s.size := by omega
      have hi' : (i : Int) < (s.size : Int) := by omega
      obtain ⟨b, hb⟩ : ∃ b, s[i] = b := ⟨_, rfl⟩
      have HBB := hide hb
      clear hb
      go_wp2_with fail
      go_loopg [3, 5] 14 (fun gk o3 k5 wr => ∃ (k : Nat) (o' : ByteArray), k + gk = 14 ∧ o3 = .string o' ∧ k5 = .int .i64 k ∧ o'.data.toList = o.data.toList ++ (if b ∈ specL.take k then [92] else []) ∧ ∃ n, wr = w.drewN n)
      case atStart => exact ⟨0, o, by omega, rfl, rfl, by simp, n0, rfl⟩
      case round =>
        obtain ⟨k, o', hgk, rfl, rfl, ho', n1, rfl⟩ := hrel
        have HO2 := hide ho'
        have hos2 : o'.size ≤ 2 * i + 1 := by
          rw [Lib.size_eq, ho', List.length_append, ← Lib.size_eq]
          have : (if b ∈ specL.take k then [(92 : UInt8)] else []).length ≤ 1 := by split <;> simp
          omega
        clear ho'
        cases gk with
        | zero =>
          obtain rfl : k = 14 := by omega
          have hi2 : (i : Int) ≤ (i : Int) + 1 := by omega
          have hi3 : (i : Int) + 1 ≤ (s.size : Int) := by omega
          have hz1 : (s.extract i (i + 1)).size = 1 := by rw [size_extract s i (i + 1) (by omega)]; omega
          go_wp2_with fail
          go_roundg g
          case measure => omega
          case rel =>
            refine ⟨i + 1, o' ++ s.extract i (i + 1), by omega, rfl, by simp, ?_, n1, rfl⟩
            rw [list_app, HO2.out, HO.out, list_one s i hi, take_snoc s.data.toList i (by omega), qL_snoc]
            have hbi : s.data.toList[i]'(by omega) = b := HBB.out
            rw [hbi, HBB.out, show specL.take 14 = specL from rfl]
            by_cases hm : b ∈ specL
            · rw [if_pos hm, if_pos hm]; simp
            · rw [if_neg hm, if_neg hm]; simp
        | succ g2 =>
          have hk14 : k < 14 := by omega
          have hk' : (k : Int) < 14 := by omega
          go_wp2_with fail
          go_quiet (fail)
          rw [World.drewN_drewN]
          have hkl : k < specL.length := hk14
          by_cases hkb : specL[k] = b
          · have hbool : ((((⟨#[92, 46, 43, 42, 63, 40, 41, 124, 91, 93, 123, 125, 94, 36]⟩ : ByteArray)[k]'hk14).toNat : Int) == ((s[i]'hi).toNat : Int)) = true := by
              have h1 : ((⟨#[92, 46, 43, 42, 63, 40, 41, 124, 91, 93, 123, 125, 94, 36]⟩ : ByteArray)[k]'hk14) = specL[k] := rfl
              rw [h1, hkb, HBB.out]; simp
            go_wp2_with fail
            go_roundg g2
            case measure => omega
            case rel =>
              refine ⟨k + 1, o' ++ ⟨#[92]⟩, by omega, rfl, by simp, ?_, _, rfl⟩
              have hno : b ∉ specL.take k := by rw [← hkb]; exact spec_once ⟨k, hk14⟩
              rw [list_app, HO2.out, if_neg hno, if_pos ((spec_take k hkl b).2 (Or.inr hkb.symm))]
              simp
          · have hbool : ((((⟨#[92, 46, 43, 42, 63, 40, 41, 124, 91, 93, 123, 125, 94, 36]⟩ : ByteArray)[k]'hk14).toNat : Int) == ((s[i]'hi).toNat : Int)) = false := by
              have h1 : ((⟨#[92, 46, 43, 42, 63, 40, 41, 124, 91, 93, 123, 125, 94, 36]⟩ : ByteArray)[k]'hk14) = specL[k] := rfl
              rw [h1, HBB.out, beq_eq_false_iff_ne]
              intro e
              apply hkb
              apply UInt8.toNat_inj.1
              omega
            go_wp2_with fail
            go_roundg g2
            case measure => omega
            case rel =>
              refine ⟨k + 1, o', by omega, rfl, by simp, ?_, _, rfl⟩
              have hiff : b ∈ specL.take (k + 1) ↔ b ∈ specL.take k := by
                rw [spec_take k hkl b]
                exact ⟨fun h => h.resolve_right (fun e => hkb e.symm), Or.inl⟩
              rw [HO2.out]
              by_cases hm : b ∈ specL.take k
              · rw [if_pos hm, if_pos (hiff.2 hm)]
              · rw [if_neg hm, if_neg (fun h => hm (hiff.1 h))]
end Go.Proofs.YtmeffeigamaipaaDoor.Q
