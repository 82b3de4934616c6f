/- G3 G4, one behind the other. -/
import Derived.Test.YtmeffeigamaipaaDoorM04
set_option linter.unusedVariables false
set_option linter.unusedSimpArgs false
/- The pattern reader in plain words: what it makes of a text, and where it gives up. -/
namespace Go.Proofs.YtmeffeigamaipaaDoor.G
open Go.RowKit

structure RS where
  k : Nat
  d : Nat
  f : Bool
  g : Nat
  nm : List (ByteArray × Nat)

inductive Res (α : Type) where
  | ok (a : α) (s : RS)
  | bad (s : RS)
def Res.bind {α β : Type} (m : Res α) (f : α → RS → Res β) : Res β := match m with
  | .ok a s => f a s
  | .bad s => .bad s
theorem Res.bind_ok {α β : Type} (a : α) (s : RS) (f : α → RS → Res β) : (Res.ok a s).bind f = f a s := rfl
theorem Res.bind_bad {α β : Type} (s : RS) (f : α → RS → Res β) : (Res.bad s : Res α).bind f = .bad s := rfl
inductive Pt where
  | single (c : Cls)
  | seq (l : List Pt)
  | alt (l : List Pt)
  | wrap (p : Pt) (g : Nat)
  | count (p : Pt) (least : Nat) (most : Int) (lazy : Bool)

def byteAt (t : ByteArray) (k : Nat) : Option UInt8 := t.data[k]?
def RS.up (s : RS) : RS := { s with k := s.k + 1 }
def seesM (t : ByteArray) (s : RS) (b : UInt8) : Bool := byteAt t s.k == some b
def RS.took (s : RS) (t : ByteArray) (b : UInt8) : RS := if seesM t s b then s.up else s
def mustM (t : ByteArray) (s : RS) (b : UInt8) : Res Unit := if seesM t s b then .ok () s.up else .bad s
def lookM (t : ByteArray) (s : RS) : Res UInt8 := match byteAt t s.k with
  | some b => .ok b s
  | none => .bad s

def timesM (t : ByteArray) (least : Nat) (s : RS) : Res Nat := match byteAt t s.k with
  | none => .bad s
  | some b => if b.toNat < 48 + least ∨ 57 < b.toNat then .bad s else .ok (b.toNat - 48) s.up
def bracesM (t : ByteArray) (s : RS) : Res (Nat × Int) :=
  (timesM t 0 s).bind fun a s1 =>
  if seesM t s1 125 then .ok (a, (a : Int)) s1.up else
  (mustM t s1 44).bind fun _ s2 =>
  if seesM t s2 125 then .ok (a, -1) s2.up else
  (timesM t a s2).bind fun b s3 =>
  (mustM t s3 125).bind fun _ s4 => .ok (a, (b : Int)) s4
def countM (t : ByteArray) (s : RS) : Res (Option (Nat × Int)) :=
  if seesM t s 42 then .ok (some (0, -1)) s.up
  else if seesM t s 43 then .ok (some (1, -1)) s.up
  else if seesM t s 63 then .ok (some (0, 1)) s.up
  else if seesM t s 123 then (bracesM t s.up).bind fun x s' => .ok (some x) s'
  else .ok none s

def addB (c : Cls) (b : Nat) : Cls := if b / 64 = 0 then ⟨bits BinOp.or IntKind.u64 c.lo (shl1 b), c.hi, c.hg⟩ else ⟨c.lo, bits BinOp.or IntKind.u64 c.hi (shl1 b), c.hg⟩
def addBs : Nat → Nat → Cls → Cls
  | 0, _, c => c
  | n + 1, b, c => addBs n (b + 1) (addB c b)
def rangeC (a b : Nat) : Cls := addBs (b + 1 - a) a ⟨0, 0, false⟩
def othersC (c : Cls) : Cls := ⟨bits BinOp.xor IntKind.u64 IntKind.u64.max c.lo, bits BinOp.xor IntKind.u64 IntKind.u64.max c.hi, !c.hg⟩
def bytesC (l : List UInt8) : Cls := l.foldl (fun c b => withC c (oneC b.toNat)) ⟨0, 0, false⟩
def dotC : Cls := othersC ⟨0, 0, false⟩
def digitC : Cls := rangeC 48 57
def wordC : Cls := withC (withC (withC digitC (rangeC 97 122)) (rangeC 65 90)) (bytesC [95])
def spaceC : Cls := bytesC [32, 9, 10, 13]
def shortM (b : UInt8) : Option Cls :=
  if b = 100 then some digitC else if b = 119 then some wordC else if b = 115 then some spaceC
  else if b = 68 then some (othersC digitC) else if b = 87 then some (othersC wordC) else if b = 83 then some (othersC spaceC) else none
def sing (f : Bool) (c : Cls) : Cls := if f then bothC c else c

def specL : List UInt8 := [92, 46, 43, 42, 63, 40, 41, 124, 91, 93, 123, 125, 94, 36]
def escL : List UInt8 := [92, 46, 43, 42, 63, 40, 41, 124, 91, 93, 123, 125, 94, 36, 45, 34]
def setL : List UInt8 := [92, 91, 93, 94, 45]
def plainM (t : ByteArray) (but : List UInt8) (s : RS) : Res UInt8 := match byteAt t s.k with
  | none => .bad s
  | some b => if 128 ≤ b.toNat ∨ b ∈ but then .bad s else .ok b s.up
def escapeM (t : ByteArray) (s : RS) : Res (Cls × UInt8 × Bool) := match byteAt t s.k with
  | none => .bad s
  | some b => if b ∈ escL then .ok (oneC b.toNat, b, true) s.up else match shortM b with
    | none => .bad s
    | some c => .ok (c, 0, false) s.up

def pairEndM (t : ByteArray) (first : UInt8) (s : RS) : Res UInt8 :=
  let esc := decide (first.toNat ≤ 125) && seesM t s 92
  let s1 := if esc then s.up else s
  match byteAt t s1.k with
  | none => .bad s1
  | some b => if b.toNat < first.toNat then .bad s1 else if esc then (if b ∈ escL then .ok b s1.up else .bad s1) else plainM t setL s1
def itemTail (t : ByteArray) (b : UInt8) (s : RS) : Res Cls :=
  if seesM t s 45 then (pairEndM t b s.up).bind fun e s' => .ok (rangeC b.toNat e.toNat) s' else .ok (oneC b.toNat) s
def itemM (t : ByteArray) (s : RS) : Res Cls :=
  if seesM t s 92 then (escapeM t s.up).bind fun x s1 => if x.2.2 then itemTail t x.2.1 s1 else .ok x.1 s1
  else (plainM t setL s).bind fun b s1 => itemTail t b s1
def itemsM (t : ByteArray) : Nat → Cls → RS → Res Cls
  | 0, _, s => .bad s
  | n + 1, c, s => if seesM t s 93 then .ok c s.up else (itemM t s).bind fun c' s' => itemsM t n (withC c c') s'
def setM (t : ByteArray) (s : RS) : Res Cls :=
  (mustM t s 91).bind fun _ s1 =>
  (itemM t (s1.took t 94)).bind fun c s3 =>
  (itemsM t (t.size + 1) c s3).bind fun c s4 =>
  .ok (if seesM t s1 94 then othersC (sing s4.f c) else sing s4.f c) s4

def takenM (nm : List (ByteArray × Nat)) (n : ByteArray) : Bool := nm.any fun x => decide (x.1 = n)
def gnLoop (t : ByteArray) (i : Nat) : Nat → RS → Res Unit
  | 0, s => .ok () s
  | n + 1, s => match byteAt t s.k with
    | none => .bad s
    | some b => if 97 ≤ b.toNat ∧ b.toNat ≤ 122 then (if n = 0 ∧ takenM s.nm (t.extract i (s.k + 1)) = true then .bad s else gnLoop t i n s.up) else .ok () s
def groupNameM (t : ByteArray) (s : RS) : Res ByteArray :=
  (gnLoop t s.k 8 s).bind fun _ s1 =>
  if s1.k = s.k ∨ takenM s1.nm (t.extract s.k s1.k) = true then .bad s1 else .ok (t.extract s.k s1.k) s1
def openingM (t : ByteArray) (s : RS) : Res Nat :=
  if s.g ≠ 5 ∧ seesM t s 63 = false then .ok (s.g + 1) { s with g := s.g + 1 }
  else (mustM t s 63).bind fun _ s1 =>
    if seesM t s1 58 then .ok 0 s1.up
    else if s1.g = 5 then .bad s1
    else (mustM t s1 80).bind fun _ s2 => (mustM t s2 60).bind fun _ s3 => (groupNameM t s3).bind fun n s4 => (mustM t s4 62).bind fun _ s5 =>
      .ok (s5.g + 1) { s5 with g := s5.g + 1, nm := s5.nm ++ [(n, s5.g + 1)] }

section
variable (t : ByteArray) (E : RS → Res Pt)
def parenM (s : RS) : Res Pt :=
  if s.d = 6 then .bad s else
  (mustM t s 40).bind fun _ s1 =>
  (openingM t { s1 with d := s1.d + 1 }).bind fun g s2 =>
  (E s2).bind fun p s3 =>
  (mustM t s3 41).bind fun _ s4 => .ok (.wrap p g) { s4 with d := s4.d - 1 }
def atomM (s : RS) : Res Pt := match byteAt t s.k with
  | none => .bad s
  | some b =>
    if b = 40 then parenM t E s
    else if b = 91 then (setM t s).bind fun c s' => .ok (.single c) s'
    else if b = 46 then .ok (.single dotC) s.up
    else if b = 92 then (escapeM t s.up).bind fun x s' => .ok (.single (sing s'.f x.1)) s'
    else (plainM t specL s).bind fun b s' => .ok (.single (sing s'.f (oneC b.toNat))) s'
def pieceM (s : RS) : Res Pt :=
  (atomM t E s).bind fun p s1 => (countM t s1).bind fun c s2 => match c with
    | none => .ok p s2
    | some x => .ok (.count p x.1 x.2 (seesM t s2 63)) (s2.took t 63)
def branchM : Nat → List Pt → RS → Res (List Pt)
  | 0, _, s => .bad s
  | n + 1, acc, s => if s.k = t.size ∨ seesM t s 124 = true ∨ seesM t s 41 = true then .ok acc s else (pieceM t E s).bind fun p s' => branchM n (acc ++ [p]) s'
def altM : Nat → List Pt → RS → Res (List Pt)
  | 0, _, s => .bad s
  | n + 1, acc, s => if seesM t s 124 then (branchM t E (t.size + 1) [] s.up).bind fun l s' => altM n (acc ++ [.seq l]) s' else .ok acc s
def exprM (s : RS) : Res Pt :=
  (branchM t E (t.size + 1) [] s).bind fun l s1 => (altM t E (t.size + 1) [.seq l] s1).bind fun b s2 => .ok (.alt b) s2
end
def exprAt (t : ByteArray) : Nat → RS → Res Pt
  | 0, s => .bad s
  | n + 1, s => exprM t (exprAt t n) s
def startS : RS := ⟨0, 0, false, 0, []⟩
def foldM (t : ByteArray) : Res Unit :=
  if byteAt t 0 = some 40 ∧ byteAt t 1 = some 63 ∧ byteAt t 2 = some 105 then (mustM t { startS with k := 3 } 41).bind fun _ s => .ok () { s with f := true }
  else .ok () startS
def readM (t : ByteArray) : Res Pt :=
  (foldM t).bind fun _ s => (exprAt t 7 s).bind fun p s' => if s'.k = t.size then .ok p s' else .bad s'
end Go.Proofs.YtmeffeigamaipaaDoor.G

/- The pattern reader, whatever the text: its state in memory, and its smallest steps. -/
namespace Go.Proofs.YtmeffeigamaipaaDoor.G
open Go.RowKit

def nmE (l : List (ByteArray × Nat)) : Array MapEntry := (l.zipIdx.map fun x => { key := .string x.1.1, val := .int .i64 x.1.2, born := x.2 }).toArray

abbrev EV := TypeId × Value

structure RG (w : World) (r mb : Nat) (t : ByteArray) (x : EV) (s : RS) : Prop where
  rd : RD w r t s.k ⟨s.d, s.f, s.g, .map (some mb)⟩
  mp : BK w mb (.map (nmE s.nm) s.nm.length)
  ev : w.cell? ⟨0, 0, none⟩ = some (.iface x.1 x.2)
  rm : r ≠ mb
  re : r ≠ 0
  me : mb ≠ 0
  hk : s.k ≤ t.size
  ht : t.size ≤ 60
  nk : ∀ x ∈ s.nm, x.1.size ≤ 60

theorem lt_of_cell {w : World} {b o : Nat} {v : Value} (h : w.cell? ⟨b, o, none⟩ = some v) : b < w.heap.size := by
  by_cases hb : b < w.heap.size
  · exact hb
  · have h2 : w.heap[b]? = none := Array.getElem?_eq_none (by omega)
    simp [World.cell?, h2] at h

theorem RG.ex {l : List Nat} {w w' : World} {r mb : Nat} {t : ByteArray} {x : EV} {s : RS} (h : RG w r mb t x s) (hx : Ex l w w') (h1 : r ∉ l) (h2 : mb ∉ l) (h3 : 0 ∉ l) : RG w' r mb t x s :=
  ⟨h.rd.ex hx h1, h.mp.ex hx h2, (hx.cell.1 _ _ (lt_of_cell h.ev) h3).trans h.ev, h.rm, h.re, h.me, h.hk, h.ht, h.nk⟩
theorem RG.ex0 {w w' : World} {r mb : Nat} {t : ByteArray} {x : EV} {s : RS} (h : RG w r mb t x s) (hx : Ex [] w w') : RG w' r mb t x s := h.ex hx (by simp) (by simp) (by simp)
theorem RG.alloc {w : World} {r mb : Nat} {t : ByteArray} {x : EV} {s : RS} (h : RG w r mb t x s) (o : Obj) : RG (w.alloc o) r mb t x s := h.ex0 ((Ex.refl _ _).alloc _)
theorem RG.drewN {w : World} {r mb : Nat} {t : ByteArray} {x : EV} {s : RS} (h : RG w r mb t x s) (n : Nat) : RG (w.drewN n) r mb t x s := h.ex0 ((Ex.refl _ _).drewN _)
theorem RG.drew {w : World} {r mb : Nat} {t : ByteArray} {x : EV} {s : RS} (h : RG w r mb t x s) : RG w.drew r mb t x s := h.ex0 ((Ex.refl _ _).drew)
theorem RG.lt {w : World} {r mb : Nat} {t : ByteArray} {x : EV} {s : RS} (h : RG w r mb t x s) : r < w.heap.size := h.rd.lt
theorem RG.mlt {w : World} {r mb : Nat} {t : ByteArray} {x : EV} {s : RS} (h : RG w r mb t x s) : mb < w.heap.size := h.mp.lt
theorem RG.elt {w : World} {r mb : Nat} {t : ByteArray} {x : EV} {s : RS} (h : RG w r mb t x s) : 0 < w.heap.size := lt_of_cell h.ev
theorem RG.set {w : World} {r mb : Nat} {t : ByteArray} {x : EV} {s : RS} (h : RG w r mb t x s) {p : Addr} (h1 : p.block ≠ r) (h2 : p.block ≠ mb) (h3 : p.block ≠ 0) (u : Value) : RG (w.setCell p u) r mb t x s :=
  h.ex (l := [p.block]) ((Ex.refl _ _).setCell (Or.inl (by simp)) u) (by simpa using h1.symm) (by simpa using h2.symm) (by simpa using h3.symm)
theorem RG.setN {w : World} {r mb : Nat} {t : ByteArray} {x : EV} {s : RS} {B : Nat} (h : RG w r mb t x s) {p : Addr} (h1 : r < B) (h2 : mb < B) (h3 : 0 < B) (hp : B ≤ p.block) (u : Value) : RG (w.setCell p u) r mb t x s :=
  h.set (by omega) (by omega) (by omega) u
theorem RG.own {w : World} {r mb : Nat} {t : ByteArray} {x : EV} {s s' : RS} (h : RG w r mb t x s) {p : Addr} (hp : p.block = r) (u : Value) (hn : s'.nm = s.nm) (hk : s'.k ≤ t.size) (hrd : RD (w.setCell p u) r t s'.k ⟨s'.d, s'.f, s'.g, .map (some mb)⟩) : RG (w.setCell p u) r mb t x s' := by
  have hx : Ex [r] w (w.setCell p u) := (Ex.refl _ _).setCell (Or.inl (by simp [hp])) u
  refine ⟨hrd, ?_, (hx.cell.1 _ _ h.elt (by simpa using h.re.symm)).trans h.ev, h.rm, h.re, h.me, hk, h.ht, by rw [hn]; exact h.nk⟩
  rw [hn]; exact h.mp.ex hx (by simpa using h.rm.symm)
theorem RG.up {w : World} {r mb : Nat} {t : ByteArray} {x : EV} {s : RS} (h : RG w r mb t x s) (hk : s.k < t.size) : RG (w.setCell ⟨r, 1, none⟩ (.int .i64 ((s.k + 1 : Nat) : Int))) r mb t x s.up :=
  h.own rfl _ rfl hk h.rd.step

def Post {α : Type} (own : List Nat) (r mb : Nat) (t : ByteArray) (x : EV) (w : World) (R : World → Value → α → Prop) (m : Res α) (e : Ending) (w' : World) : Prop :=
  match m with
  | .ok a s' => (∃ v, e = .returned v ∧ R w' v a) ∧ RG w' r mb t x s' ∧ Ex own w w'
  | .bad s' => e = .panicked [{ v := .iface x.1 x.2, recovered := false }] ∧ RG w' r mb t x s' ∧ Ex own w w'

theorem byteAt_lt {t : ByteArray} {k : Nat} (h : k < t.size) : byteAt t k = some (t[k]'h) := Array.getElem?_eq_getElem h
theorem byteAt_ge {t : ByteArray} {k : Nat} (h : ¬ k < t.size) : byteAt t k = none := Array.getElem?_eq_none (by simp only [ByteArray.size] at h; omega)
theorem byteAt_some {t : ByteArray} {k : Nat} {b : UInt8} (h : byteAt t k = some b) : ∃ hk : k < t.size, (t[k]'hk) = b := by
  by_cases hk : k < t.size
  · rw [byteAt_lt hk] at h; exact ⟨hk, Option.some.inj h⟩
  · rw [byteAt_ge hk] at h; cases h
theorem sees_lt {t : ByteArray} {s : RS} {b : UInt8} (h : seesM t s b = true) : s.k < t.size := by
  unfold seesM at h
  by_cases hk : s.k < t.size
  · exact hk
  · rw [byteAt_ge hk] at h; simp at h

theorem toNat_beq (a b : UInt8) : ((a.toNat : Int) == (b.toNat : Int)) = (a == b) := by
  by_cases h : a = b
  · subst h; simp
  · have h2 : (a.toNat : Int) ≠ (b.toNat : Int) := by
      intro h3; apply h; apply UInt8.toNat_inj.1; omega
    rw [beq_eq_false_iff_ne.2 h2, beq_eq_false_iff_ne.2 h]

theorem gEnded {w : World} {r mb : Nat} {t : ByteArray} {x : EV} {s : RS} (h : RG w r mb t x s) :
    Calls Tryd.prog 32 #[.pointer (some ⟨r, 0, none⟩)] w fun e w' => e = .returned (.bool (decide (s.k = t.size))) ∧ ∃ n, w' = w.drewN n := by
  by_cases hk : s.k = t.size
  · rw [decide_eq_true hk]; exact ended_yes r t s.k _ w h.rd hk
  · rw [decide_eq_false hk]; exact ended_no r t s.k _ w h.rd (by have := h.hk; omega)

theorem gSees {w : World} {r mb : Nat} {t : ByteArray} {x : EV} {s : RS} (h : RG w r mb t x s) (bi : Int) (b : UInt8) (hb : (b.toNat : Int) = bi) :
    Calls Tryd.prog 48 #[.pointer (some ⟨r, 0, none⟩), .int .u8 bi] w fun e w' => e = .returned (.bool (seesM t s b)) ∧ ∃ n, w' = w.drewN n := by
  subst hb
  by_cases hk : s.k < t.size
  · have hs : seesM t s b = ((t[s.k]'hk) == b) := by simp [seesM, byteAt_lt hk]
    cases hq : seesM t s b with
    | true => exact sees_yes r t s.k _ w _ h.rd hk h.ht (by rw [toNat_beq, ← hs, hq])
    | false => exact sees_no r t s.k _ w _ h.rd hk h.ht (by rw [toNat_beq, ← hs, hq])
  · have hs : seesM t s b = false := by simp [seesM, byteAt_ge hk]
    rw [hs]
    exact sees_end r t s.k _ w _ h.rd (by have := h.hk; omega)

theorem gTakes {w : World} {r mb : Nat} {t : ByteArray} {x : EV} {s : RS} (h : RG w r mb t x s) (bi : Int) (b : UInt8) (hb : (b.toNat : Int) = bi) :
    Calls Tryd.prog 43 #[.pointer (some ⟨r, 0, none⟩), .int .u8 bi] w fun e w' => e = .returned (.bool (seesM t s b)) ∧ RG w' r mb t x (s.took t b) ∧ Ex [r] w w' := by
  subst hb
  by_cases hk : s.k < t.size
  · have hs : seesM t s b = ((t[s.k]'hk) == b) := by simp [seesM, byteAt_lt hk]
    cases hq : seesM t s b with
    | true =>
      refine (takes_yes r t s.k _ w _ h.rd hk h.ht (by rw [toNat_beq, ← hs, hq])).mono ?_
      rintro e w' ⟨rfl, hrd, hx⟩
      refine ⟨rfl, ?_, hx⟩
      unfold RS.took; rw [if_pos hq]
      exact ⟨hrd, h.mp.ex hx (by simpa using h.rm.symm), (hx.cell.1 _ _ h.elt (by simpa using h.re.symm)).trans h.ev, h.rm, h.re, h.me, hk, h.ht, h.nk⟩
    | false =>
      refine (takes_no r t s.k _ w _ h.rd hk h.ht (by rw [toNat_beq, ← hs, hq])).mono ?_
      rintro e w' ⟨rfl, n, rfl⟩
      refine ⟨rfl, ?_, (Ex.refl _ _).drewN _⟩
      unfold RS.took; rw [if_neg (by simp [hq])]; exact h.drewN _
  · have hs : seesM t s b = false := by simp [seesM, byteAt_ge hk]
    rw [hs]
    refine (takes_end r t s.k _ w _ h.rd (by have := h.hk; omega)).mono ?_
    rintro e w' ⟨rfl, n, rfl⟩
    refine ⟨rfl, ?_, (Ex.refl _ _).drewN _⟩
    unfold RS.took; rw [if_neg (by simp [hs])]; exact h.drewN _

theorem Post.mkOk {α : Type} {own : List Nat} {r mb : Nat} {t : ByteArray} {x : EV} {w w' : World} {R : World → Value → α → Prop} {m : Res α} {a : α} {s' : RS} {v : Value} (hm : m = .ok a s') (hR : R w' v a) (hg : RG w' r mb t x s') (hx : Ex own w w') : Post own r mb t x w R m (.returned v) w' := by
  subst hm; exact ⟨⟨v, rfl, hR⟩, hg, hx⟩
theorem Post.mkBad {α : Type} {own : List Nat} {r mb : Nat} {t : ByteArray} {x : EV} {w w' : World} {R : World → Value → α → Prop} {m : Res α} {s' : RS} (hm : m = .bad s') (hg : RG w' r mb t x s') (hx : Ex own w w') : Post own r mb t x w R m (.panicked [{ v := .iface x.1 x.2, recovered := false }]) w' := by
  subst hm; exact ⟨rfl, hg, hx⟩
theorem Post.split {α : Type} {own : List Nat} {r mb : Nat} {t : ByteArray} {x : EV} {w w' : World} {R : World → Value → α → Prop} {m : Res α} {e : Ending} (h : Post own r mb t x w R m e w') :
    (∃ a s' v, m = .ok a s' ∧ e = .returned v ∧ R w' v a ∧ RG w' r mb t x s' ∧ Ex own w w') ∨ (∃ s', m = .bad s' ∧ e = .panicked [{ v := .iface x.1 x.2, recovered := false }] ∧ RG w' r mb t x s' ∧ Ex own w w') := by
  cases m with
  | ok a s' => obtain ⟨⟨v, h1, h2⟩, h3, h4⟩ := h; exact .inl ⟨a, s', v, rfl, h1, h2, h3, h4⟩
  | bad s' => obtain ⟨h1, h3, h4⟩ := h; exact .inr ⟨s', rfl, h1, h3, h4⟩
theorem body_panic {P : Program} {fn : Func} {R : Ending → World → Prop} {a : Act} {w : World} {ch : List PanicEntry} (hd : a.defers = []) (h : R (.panicked ch) w) : bodyPost P fn R (.panic ch) a w := ⟨hd, h⟩

theorem mustM_yes {t : ByteArray} {s : RS} {b : UInt8} (h : seesM t s b = true) : mustM t s b = .ok () s.up := by unfold mustM; rw [if_pos h]
theorem mustM_no {t : ByteArray} {s : RS} {b : UInt8} (h : seesM t s b = false) : mustM t s b = .bad s := by unfold mustM; rw [if_neg (by simp [h])]
theorem took_yes {t : ByteArray} {s : RS} {b : UInt8} (h : seesM t s b = true) : s.took t b = s.up := by unfold RS.took; rw [if_pos h]
theorem took_no {t : ByteArray} {s : RS} {b : UInt8} (h : seesM t s b = false) : s.took t b = s := by unfold RS.took; rw [if_neg (by simp [h])]

set_option maxHeartbeats 400000 in
theorem gMust {w : World} {r mb : Nat} {t : ByteArray} {x : EV} {s : RS} (h : RG w r mb t x s) (bi : Int) (b : UInt8) (hb : (b.toNat : Int) = bi) :
    Calls Tryd.prog 41 #[.pointer (some ⟨r, 0, none⟩), .int .u8 bi] w fun e w' => Post [r] r mb t x w (fun _ v _ => v = .tuple #[]) (mustM t s b) e w' := by
  have H := hide h
  clear h
  go_enter Tryd.func41, Tryd.ntmps41
  go_wp2_with fail
  refine (gTakes H.out bi b hb).mono ?_
  rintro e w' ⟨rfl, h1, h2⟩
  cases hq : seesM t s b with
  | true =>
    rw [took_yes hq] at h1
    have HM := hide (mustM_yes hq)
    have H1 := hide h1
    have H2 := hide h2
    clear h1 h2 hq
    go_wp2_with fail
    go_end0
    exact Post.mkOk HM.out rfl H1.out H2.out
  | false =>
    rw [took_no hq] at h1
    have HM := hide (mustM_no hq)
    have hev := h1.ev
    have H1 := hide h1
    have H2 := hide h2
    clear h1 h2 hq
    go_wp2_with fail
    exact body_panic rfl (Post.mkBad HM.out H1.out H2.out)

theorem lookM_some {t : ByteArray} {s : RS} {b : UInt8} (h : byteAt t s.k = some b) : lookM t s = .ok b s := by simp [lookM, h]
theorem lookM_none {t : ByteArray} {s : RS} (h : byteAt t s.k = none) : lookM t s = .bad s := by simp [lookM, h]
set_option maxHeartbeats 400000 in
theorem gLook {w : World} {r mb : Nat} {t : ByteArray} {x : EV} {s : RS} (h : RG w r mb t x s) :
    Calls Tryd.prog 56 #[.pointer (some ⟨r, 0, none⟩)] w fun e w' => (∃ n, w' = w.drewN n) ∧ Post [] r mb t x w (fun _ v b => v = .int .u8 b.toNat) (lookM t s) e w' := by
  by_cases hk : s.k < t.size
  · refine (look_any r t s.k _ w h.rd hk h.ht).mono ?_
    rintro e w' ⟨rfl, n, rfl⟩
    exact ⟨⟨n, rfl⟩, Post.mkOk (lookM_some (byteAt_lt hk)) rfl (h.drewN _) ((Ex.refl _ _).drewN _)⟩
  · have HM := hide (lookM_none (byteAt_ge hk))
    have hev := h.ev
    have hkk : s.k = t.size := by have := h.hk; omega
    have H := hide h
    have HK := hide hkk
    clear h hk hkk
    go_enter Tryd.func56, Tryd.ntmps56
    go_wp2_with fail
    refine (gEnded H.out).mono ?_
    rintro e w' ⟨rfl, n, rfl⟩
    rw [decide_eq_true HK.out]
    go_wp2_with fail
    exact body_panic rfl ⟨⟨n, rfl⟩, Post.mkBad HM.out (H.out.drewN _) ((Ex.refl _ _).drewN _)⟩
end Go.Proofs.YtmeffeigamaipaaDoor.G
