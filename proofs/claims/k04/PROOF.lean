import PyProof.Rows.All
import Wide.All
import OpenK.AllK
import Wide.FinOn
import HandS.AnyAll
import HandS.Conv
import HandS.Deep
import HandS.Dict
import HandS.DictComp
import HandS.EndTab
import HandS.Evl
import HandS.ExcField
import HandS.ExcInit
import HandS.ExcIs
import HandS.ExcOwn
import HandS.ForExc
import HandS.ForMost
import HandS.IsInst
import HandS.JoinGen
import HandS.List
import HandS.RaiseMore
import HandS.RevRange
import HandS.SetBool
import HandS.SetKeys
import HandS.StrMore
import HandS.Strs
import HandS.Style
import HandS.TupAny
import HandS.TupMul
import HandS.Walk
import HandS.WordsDict
import HandS.Zip
import KE.KDictKeyed
import KE.KExcIs
import KE.KExcSuper
import KE.KNestM
import KE.RegKSuper
import PyProof.TupleOfGen
import PySem.Challenge.RW_onescore_k04_rules_of_scores
set_option Elab.async false
set_option linter.all false
set_option maxRecDepth 100000
/-! Plain mathematics of tokens: texts as lists of code points. -/
namespace OS
/-- where the run of signs with p stops that begins at i -/
def run (p : Nat → Bool) (cs : List Nat) (i : Nat) : Nat := i + ((cs.drop i).takeWhile p).length
theorem run_le (p : Nat → Bool) (cs : List Nat) {i : Nat} (h : i ≤ cs.length) : run p cs i ≤ cs.length := by
  have h1 : ((cs.drop i).takeWhile p).length ≤ (cs.drop i).length := (List.takeWhile_sublist p).length_le
  rw [List.length_drop] at h1
  unfold run
  omega
theorem le_run (p : Nat → Bool) (cs : List Nat) (i : Nat) : i ≤ run p cs i := Nat.le_add_right _ _
theorem drop_at {cs : List Nat} {i c : Nat} (h : cs[i]? = some c) : cs.drop i = c :: cs.drop (i + 1) := by
  obtain ⟨hi, e⟩ := List.getElem?_eq_some_iff.mp h
  rw [List.drop_eq_getElem_cons hi, e]
theorem run_go {p : Nat → Bool} {cs : List Nat} {i c : Nat} (h : cs[i]? = some c) (hp : p c = true) : run p cs i = run p cs (i + 1) := by
  unfold run
  rw [drop_at h, List.takeWhile_cons, if_pos hp, List.length_cons]
  omega
theorem run_stop {p : Nat → Bool} {cs : List Nat} {i c : Nat} (h : cs[i]? = some c) (hp : p c = false) : run p cs i = i := by
  unfold run
  rw [drop_at h, List.takeWhile_cons, hp]
  simp
theorem run_end {p : Nat → Bool} {cs : List Nat} {i : Nat} (h : cs.length ≤ i) : run p cs i = i := by
  unfold run
  rw [List.drop_eq_nil_of_le h]
  simp
theorem run_congr {p q : Nat → Bool} (h : ∀ c, p c = q c) (cs : List Nat) (i : Nat) : run p cs i = run q cs i := by
  have e : p = q := funext h
  rw [e]
theorem run_gt {p : Nat → Bool} {cs : List Nat} {i c : Nat} (h : cs[i]? = some c) (hp : p c = true) : i < run p cs i := by
  rw [run_go h hp]
  exact Nat.lt_of_lt_of_le (Nat.lt_succ_self i) (le_run p cs (i + 1))

def isLetter (c : Nat) : Bool := (decide (97 ≤ c) && decide (c ≤ 122)) || (decide (65 ≤ c) && decide (c ≤ 90))
def isDigit (c : Nat) : Bool := decide (48 ≤ c) && decide (c ≤ 57)
def isName (c : Nat) : Bool := isLetter c || (isDigit c || c == 95)
def notNl (c : Nat) : Bool := c != 10
/-- the sort and the end of the token at i; words tells which stretches are words, longs which two signs stand together, signs the rest -/
structure Tab where
  word : List Nat → Bool
  long : List Nat → Bool
  sign : Nat → Bool
inductive Srt where
  | word | name | number | sign | wrong
  deriving DecidableEq
def tokAt (T : Tab) (cs : List Nat) (i : Nat) : Srt × Nat :=
  match cs[i]? with
  | none => (.wrong, i + 1)
  | some c =>
    if isLetter c = true then
      (if T.word ((cs.drop i).take (run isName cs i - i)) = true then .word else .name, run isName cs i)
    else if isDigit c = true then (.number, run isDigit cs i)
    else if T.long ((cs.drop i).take 2) = true then (.sign, i + 2)
    else (if T.sign c = true then .sign else .wrong, i + 1)
theorem letter_name {c : Nat} (h : isLetter c = true) : isName c = true := by
  unfold isName; rw [h]; rfl
theorem tokAt_gt (T : Tab) (cs : List Nat) (i : Nat) : i < (tokAt T cs i).2 := by
  unfold tokAt
  cases e : cs[i]? with
  | none => exact Nat.lt_succ_self i
  | some c =>
    dsimp only
    by_cases h1 : isLetter c = true
    · rw [if_pos h1]; exact run_gt e (letter_name h1)
    · rw [if_neg h1]
      by_cases h2 : isDigit c = true
      · rw [if_pos h2]; exact run_gt e h2
      · rw [if_neg h2]
        by_cases h3 : T.long ((cs.drop i).take 2) = true
        · rw [if_pos h3]; show i < i + 2; omega
        · rw [if_neg h3]; show i < i + 1; omega

theorem tokAt_le (T : Tab) (cs : List Nat) {i : Nat} (h : i < cs.length) : (tokAt T cs i).2 ≤ cs.length + 1 := by
  unfold tokAt
  cases e : cs[i]? with
  | none => show i + 1 ≤ _; omega
  | some c =>
    dsimp only
    by_cases h1 : isLetter c = true
    · rw [if_pos h1]; exact Nat.le_succ_of_le (run_le _ cs (by omega))
    · rw [if_neg h1]
      by_cases h2 : isDigit c = true
      · rw [if_pos h2]; exact Nat.le_succ_of_le (run_le _ cs (by omega))
      · rw [if_neg h2]
        by_cases h3 : T.long ((cs.drop i).take 2) = true
        · rw [if_pos h3]; show i + 2 ≤ _; omega
        · rw [if_neg h3]; show i + 1 ≤ _; omega

structure Tk where
  s : Srt
  a : Nat
  b : Nat
/-- the tokens from i on -/
inductive Toks (T : Tab) (cs : List Nat) : Nat → List Tk → Prop
  | done {i : Nat} : cs.length ≤ i → Toks T cs i []
  | skip {i c : Nat} {L : List Tk} : cs[i]? = some c → (c = 32 ∨ c = 10) → Toks T cs (i + 1) L → Toks T cs i L
  | note {i : Nat} {L : List Tk} : cs[i]? = some 35 → Toks T cs (run notNl cs i) L → Toks T cs i L
  | tok {i c : Nat} {L : List Tk} : cs[i]? = some c → ¬ (c = 32 ∨ c = 10) → c ≠ 35 → Toks T cs (tokAt T cs i).2 L → Toks T cs i (⟨(tokAt T cs i).1, i, (tokAt T cs i).2⟩ :: L)
theorem Toks.det {T : Tab} {cs : List Nat} {i : Nat} {L M : List Tk} (h : Toks T cs i L) : Toks T cs i M → L = M := by
  induction h generalizing M with
  | done h =>
    intro g
    cases g with
    | done _ => rfl
    | skip e _ _ => rw [List.getElem?_eq_none h] at e; cases e
    | note e _ => rw [List.getElem?_eq_none h] at e; cases e
    | tok e _ _ _ => rw [List.getElem?_eq_none h] at e; cases e
  | skip e hc _ ih =>
    intro g
    cases g with
    | done h => rw [List.getElem?_eq_none h] at e; cases e
    | skip e' _ g => exact ih g
    | note e' _ => rw [e] at e'; injection e' with e'; omega
    | tok e' n _ _ => rw [e] at e'; injection e' with e'; rw [e'] at hc; exact absurd hc n
  | note e _ ih =>
    intro g
    cases g with
    | done h => rw [List.getElem?_eq_none h] at e; cases e
    | skip e' hc _ => rw [e] at e'; injection e' with e'; omega
    | note _ g => exact ih g
    | tok e' _ n _ => rw [e] at e'; injection e' with e'; exact absurd e'.symm n
  | tok e n1 n2 _ ih =>
    intro g
    cases g with
    | done h => rw [List.getElem?_eq_none h] at e; cases e
    | skip e' hc _ => rw [e] at e'; injection e' with e'; rw [e'] at n1; exact absurd hc n1
    | note e' _ => rw [e] at e'; injection e' with e'; exact absurd e' n2
    | tok _ _ _ g => rw [ih g]
end OS

/-! What all laws share: callees, data, heaps. -/
namespace OS
open PySem PySem.Spec PyProof.Rows L2
/-- a def that may be called: it keeps its promise, binds its parameters, stands at its name -/
structure Cal (P : Program) (w : World) (K : PySem.W.Frag) (mg : Str → Option Value) (base : Heap) (k : Nat) (x : Str) (ps : List Str) (sp : Sp) (f : Addr) (fd : FuncData) : Prop where
  G : FnOk P w K mg base CX0 k f fd ps sp
  b : Binds K fd ps []
  k : PySem.W.keepIn K (.ref f) = true
  m : mg x = some (.ref f)
theorem relS {z : Str} {t : Tok} : RelV (.str z) (.str z t) := ⟨t, rfl⟩
theorem relI {z : Int} {t : Tok} : RelV (.int z) (.int z t) := ⟨t, rfl⟩
theorem relR {a : Addr} : RelV (.ref a) (.ref a) := rfl
theorem same_upd {H : Hp} {p : Addr} {o : HO} (h : H p = none) : Same H (upd H p o) := fun b x e => by
  rw [upd_ne (ne_of_none e h)]
  exact e
theorem Same.tup {K : PySem.W.Frag} {H H' : Hp} {a : Addr} {xs : List V} (e : Same H H') (h : SqT K H a xs) : SqT K H' a xs := by
  rcases h with (h | ⟨o, h⟩) | h
  · exact .inl (.inl (e _ _ h))
  · exact .inl (.inr ⟨o, e _ _ h⟩)
  · exact .inr h
theorem sz6 {n : Nat} (h : n ≤ 100000) : n ≤ sizeLine := Nat.le_trans h (by decide)
theorem sz6' {n : Nat} (h : n < 100000) : n < sizeLine := Nat.lt_of_lt_of_le h (by decide)
/-- the sign at i of a text -/
theorem atI_cps {z : Str} {i c : Nat} (h : z.cps.toList[i]? = some c) : atI z.cps.toList (i : Int) = some c := atI_nat h
theorem len_cps (z : Str) : z.length = z.cps.toList.length := by
  unfold Str.length
  exact (Array.length_toList).symm
/-- a slice of a text by two places within it -/
theorem cut_mid {z : Str} {i j : Nat} (h1 : i ≤ j) (h2 : j ≤ z.length) : cutS z (some (i : Int)) (some (j : Int)) = ⟨((z.cps.toList.drop i).take (j - i)).toArray⟩ := by
  unfold cutS
  rw [HT.sIx_nat, HT.sIx_nat, Nat.min_eq_left (show i ≤ z.length by omega), Nat.min_eq_left h2]
theorem cut_mid' {z : Str} {i j : Nat} (h1 : i ≤ z.length) (h2 : i ≤ j) : cutS z (some (i : Int)) (some (j : Int)) = ⟨((z.cps.toList.drop i).take (j - i)).toArray⟩ := by
  unfold cutS
  rw [HT.sIx_nat, HT.sIx_nat, Nat.min_eq_left h1]
  by_cases h : j ≤ z.length
  · rw [Nat.min_eq_left h]
  · rw [Nat.min_eq_right (show z.length ≤ j by omega)]
    have e1 : ∀ n, z.length - i ≤ n → (z.cps.toList.drop i).take n = z.cps.toList.drop i := fun n hn => List.take_of_length_le (by rw [List.length_drop, ← len_cps]; exact hn)
    rw [e1 _ (Nat.le_refl _), e1 _ (by omega)]
theorem cut_from {z : Str} {i : Nat} (h1 : i ≤ z.length) : cutS z (some (i : Int)) none = ⟨(z.cps.toList.drop i).toArray⟩ := by
  unfold cutS
  rw [HT.sIx_nat, HT.sIx_none, Nat.min_eq_left h1]
  rw [List.take_of_length_le]
  rw [List.length_drop, ← len_cps]
  exact Nat.le_refl _
/-- one sign in a text: the pure test -/
def inS (z : Str) (c : Nat) : Bool := decide (c ∈ z.cps.toList)
/-- «for c in text» by an invariant over the turns -/
theorem for_str {x : Str} {g : TG} {tb : TS} {D : Ends} {σ : L2.St} {H : Hp} (Pv : Nat → L2.St → Hp → Prop) (h0 : Pv 0 σ H)
    (hs : ∀ i c σ H, x.cps.toList[i]? = some c → Pv i σ H → g (.str ⟨#[c]⟩) σ H fun σ2 H2 => tb { D with nx := Pv (i + 1), ct := Pv (i + 1), bk := D.nx } σ2 H2) (hd : ∀ σ H, Pv x.cps.toList.length σ H → D.nx σ H) :
    ∃ W : Nat → Nat → L2.St → Hp → Prop, (∃ m, W 0 m σ H) ∧ ∀ i m σ H, W i m σ H →
      ((Its x).stop i H ∧ D.nx σ H) ∨ ((Its x).go i H ∧ ∃ N : L2.St → Hp → Prop, (∀ σ' H', N σ' H' → ∃ m', m' < m ∧ W (i + 1) m' σ' H') ∧ ∀ v H', (Its x).yld i H v H' → g v σ H' fun σ2 H2 => tb { D with nx := N, ct := N, bk := D.nx } σ2 H2) := by
  refine ⟨fun i m σ H => m = x.cps.size - i ∧ i ≤ x.cps.size ∧ Pv i σ H, ⟨x.cps.size, by simp, Nat.zero_le _, h0⟩, ?_⟩
  rintro i m σ H ⟨rfl, hi, p⟩
  by_cases hlt : i < x.cps.size
  · refine .inr ⟨hlt, Pv (i + 1), fun σ' H' p' => ⟨x.cps.size - (i + 1), by omega, rfl, hlt, p'⟩, fun v H' y => ?_⟩
    obtain ⟨e, c, ec, rfl⟩ := y
    subst e
    exact hs i c σ _ (by rw [Array.getElem?_toList]; exact ec) p
  · have e : i = x.cps.size := by omega
    subst e
    exact .inl ⟨Nat.le_refl _, hd σ H (by rw [Array.length_toList]; exact p)⟩
/-! ### data: trees of None, bools, ints, texts, tuples, lists -/
inductive Dt where
  | non | bl (b : Bool) | int (i : Int) | str (x : Str) | tup (xs : List Dt) | lst (xs : List Dt)
mutual
/-- v holds the datum -/
def At (K : PySem.W.Frag) (H : Hp) : Dt → V → Prop
  | .non, v => v = .non
  | .bl b, v => v = .bl b
  | .int i, v => v = .int i
  | .str x, v => v = .str x
  | .tup xs, v => ∃ p vs, v = .ref p ∧ H p = some (.tup vs) ∧ AtL K H xs vs
  | .lst xs, v => ∃ p vs, v = .ref p ∧ H p = some (.lst vs) ∧ AtL K H xs vs
def AtL (K : PySem.W.Frag) (H : Hp) : List Dt → List V → Prop
  | [], vs => vs = []
  | d :: ds, vs => ∃ v r, vs = v :: r ∧ At K H d v ∧ AtL K H ds r
end
theorem AtL.length {K : PySem.W.Frag} {H : Hp} : ∀ {ds : List Dt} {vs : List V}, AtL K H ds vs → vs.length = ds.length
  | [], vs, h => by
    unfold AtL at h
    subst h
    rfl
  | d :: ds, vs, h => by
    unfold AtL at h
    obtain ⟨v, r, rfl, _, h⟩ := h
    rw [List.length_cons, List.length_cons, AtL.length h]
theorem AtL.get {K : PySem.W.Frag} {H : Hp} : ∀ {ds : List Dt} {vs : List V} {i : Nat} {d : Dt}, AtL K H ds vs → ds[i]? = some d → ∃ v, vs[i]? = some v ∧ At K H d v
  | [], _, _, _, _, e => by simp at e
  | d :: ds, vs, 0, d', h, e => by
    unfold AtL at h
    obtain ⟨v, r, rfl, hd, _⟩ := h
    have e : d = d' := Option.some.inj e
    subst e
    exact ⟨v, rfl, hd⟩
  | d :: ds, vs, i + 1, d', h, e => by
    unfold AtL at h
    obtain ⟨v, r, rfl, _, h⟩ := h
    exact AtL.get (ds := ds) (vs := r) (i := i) h e
mutual
theorem At.keep {K : PySem.W.Frag} {H H' : Hp} (s : Same H H') : ∀ {d : Dt} {v : V}, At K H d v → At K H' d v
  | .non, v, h => by unfold At at h ⊢; exact h
  | .bl b, v, h => by unfold At at h ⊢; exact h
  | .int i, v, h => by unfold At at h ⊢; exact h
  | .str x, v, h => by unfold At at h ⊢; exact h
  | .tup xs, v, h => by
    unfold At at h ⊢
    obtain ⟨p, vs, e, hp, hl⟩ := h
    exact ⟨p, vs, e, s _ _ hp, AtL.keep s hl⟩
  | .lst xs, v, h => by
    unfold At at h ⊢
    obtain ⟨p, vs, e, hp, hl⟩ := h
    exact ⟨p, vs, e, s _ _ hp, AtL.keep s hl⟩
theorem AtL.keep {K : PySem.W.Frag} {H H' : Hp} (s : Same H H') : ∀ {ds : List Dt} {vs : List V}, AtL K H ds vs → AtL K H' ds vs
  | [], vs, h => by unfold AtL at h ⊢; exact h
  | d :: ds, vs, h => by
    unfold AtL at h ⊢
    obtain ⟨v, r, e, hd, hl⟩ := h
    exact ⟨v, r, e, At.keep s hd, AtL.keep s hl⟩
end
theorem AtL.snoc {K : PySem.W.Frag} {H : Hp} {d : Dt} {v : V} (hd : At K H d v) : ∀ {ds : List Dt} {vs : List V}, AtL K H ds vs → AtL K H (ds ++ [d]) (vs ++ [v])
  | [], vs, h => by
    unfold AtL at h
    subst h
    show AtL K H [d] [v]
    unfold AtL
    exact ⟨v, [], rfl, hd, by unfold AtL; rfl⟩
  | e :: ds, vs, h => by
    unfold AtL at h
    obtain ⟨u, r, rfl, he, h⟩ := h
    show AtL K H (e :: (ds ++ [d])) (u :: (r ++ [v]))
    unfold AtL
    exact ⟨u, _, rfl, he, AtL.snoc hd h⟩
mutual
/-- how deep a datum is, and that its rows are not too long -/
def dep : Dt → Nat
  | .tup xs => depL xs + 1
  | .lst xs => depL xs + 1
  | _ => 0
def depL : List Dt → Nat
  | [] => 0
  | d :: ds => max (dep d) (depL ds)
end
mutual
def narrow : Dt → Prop
  | .tup xs => xs.length ≤ 100000 ∧ narrowL xs
  | .lst xs => xs.length ≤ 100000 ∧ narrowL xs
  | _ => True
def narrowL : List Dt → Prop
  | [] => True
  | d :: ds => narrow d ∧ narrowL ds
end
theorem depL_get : ∀ {ds : List Dt} {i : Nat} {d : Dt}, ds[i]? = some d → dep d ≤ depL ds
  | [], _, _, e => by simp at e
  | d :: ds, 0, d', e => by
    have e : d = d' := Option.some.inj e
    subst e
    unfold depL
    exact Nat.le_max_left _ _
  | d :: ds, i + 1, d', e => by
    have h := depL_get (ds := ds) (i := i) e
    unfold depL
    exact Nat.le_trans h (Nat.le_max_right _ _)
theorem narrowL_get : ∀ {ds : List Dt} {i : Nat} {d : Dt}, narrowL ds → ds[i]? = some d → narrow d
  | [], _, _, _, e => by simp at e
  | d :: ds, 0, d', h, e => by
    have e : d = d' := Option.some.inj e
    subst e
    unfold narrowL at h
    exact h.1
  | d :: ds, i + 1, d', h, e => by
    unfold narrowL at h
    exact narrowL_get h.2 e
end OS
namespace OS
theorem deep_of {xs : List Dt} {n : Nat} (h : depL xs + 1 < n + 1) (hn : narrowL xs) : ∀ d ∈ xs, dep d < n ∧ narrow d := fun d hd => by
  obtain ⟨i, hi⟩ := List.mem_iff_getElem?.mp hd
  exact ⟨Nat.lt_of_le_of_lt (depL_get hi) (by omega), narrowL_get hn hi⟩
end OS
/-! ### the tape from which a law draws -/
namespace OS
open PySem PySem.Spec PyProof.Rows L2
theorem key_ne {a b : Str} (h : ¬ a = b) : ¬ (Sum.inr a : Key) = Sum.inr b := fun q => h (Sum.inr.inj q)
abbrev kS (x : Str) : Key := Sum.inr x
def tapeD (c : Addr) (i left seed salt : Int) : List (Key × V) :=
  [(kS "cells", .ref c), (kS "at", .int i), (kS "left", .int left), (kS "seed", .int seed), (kS "salt", .int salt)]
section
variable {c : Addr} {i left seed salt v : Int}
theorem n01 : ¬ kS "cells" = kS "at" := key_ne (by decide +kernel)
theorem n02 : ¬ kS "cells" = kS "left" := key_ne (by decide +kernel)
theorem n03 : ¬ kS "cells" = kS "seed" := key_ne (by decide +kernel)
theorem n04 : ¬ kS "cells" = kS "salt" := key_ne (by decide +kernel)
theorem n12 : ¬ kS "at" = kS "left" := key_ne (by decide +kernel)
theorem n13 : ¬ kS "at" = kS "seed" := key_ne (by decide +kernel)
theorem n14 : ¬ kS "at" = kS "salt" := key_ne (by decide +kernel)
theorem n23 : ¬ kS "left" = kS "seed" := key_ne (by decide +kernel)
theorem n24 : ¬ kS "left" = kS "salt" := key_ne (by decide +kernel)
theorem n34 : ¬ kS "seed" = kS "salt" := key_ne (by decide +kernel)
theorem n10 : ¬ kS "at" = kS "cells" := Ne.symm n01
theorem n21 : ¬ kS "left" = kS "at" := Ne.symm n12
theorem n31 : ¬ kS "seed" = kS "at" := Ne.symm n13
theorem n41 : ¬ kS "salt" = kS "at" := Ne.symm n14
theorem n32 : ¬ kS "seed" = kS "left" := Ne.symm n23
theorem n42 : ¬ kS "salt" = kS "left" := Ne.symm n24
theorem t_cells : valV (tapeD c i left seed salt) (kS "cells") = some (.ref c) := valV_pos rfl
theorem t_at : valV (tapeD c i left seed salt) (kS "at") = some (.int i) := (valV_neg n01).trans (valV_pos rfl)
theorem t_left : valV (tapeD c i left seed salt) (kS "left") = some (.int left) := (valV_neg n02).trans ((valV_neg n12).trans (valV_pos rfl))
theorem t_seed : valV (tapeD c i left seed salt) (kS "seed") = some (.int seed) := (valV_neg n03).trans ((valV_neg n13).trans ((valV_neg n23).trans (valV_pos rfl)))
theorem t_salt : valV (tapeD c i left seed salt) (kS "salt") = some (.int salt) := (valV_neg n04).trans ((valV_neg n14).trans ((valV_neg n24).trans ((valV_neg n34).trans (valV_pos rfl))))
theorem put_there {kvs : List (Key × V)} {k : Key} {v : V} {u : V} (h : valV kvs k = some u) : putK kvs k v = kvs.map (fun kv => if kv.1 = k then (kv.1, v) else kv) := by
  unfold putK
  rw [valV_any, h]
  exact if_pos rfl
theorem p_at : putK (tapeD c i left seed salt) (kS "at") (.int v) = tapeD c v left seed salt := by
  rw [put_there t_at]
  unfold tapeD
  simp only [List.map_cons, List.map_nil, if_neg n01, if_pos, if_neg n21, if_neg n31, if_neg n41]
theorem p_left : putK (tapeD c i left seed salt) (kS "left") (.int v) = tapeD c i v seed salt := by
  rw [put_there t_left]
  unfold tapeD
  simp only [List.map_cons, List.map_nil, if_neg n02, if_pos, if_neg n12, if_neg n32, if_neg n42]
theorem p_salt : putK (tapeD c i left seed salt) (kS "salt") (.int v) = tapeD c i left seed v := by
  rw [put_there t_salt]
  unfold tapeD
  simp only [List.map_cons, List.map_nil, if_neg n04, if_pos, if_neg n14, if_neg n24, if_neg n34]
end
theorem put_new {kvs : List (Key × V)} {k : Key} {v : V} (h : valV kvs k = none) : putK kvs k v = kvs ++ [(k, v)] := by
  unfold putK
  rw [valV_any, h]
  exact if_neg (by simp)
theorem merge_tape (c : Addr) (i left seed salt : Int) : mergeK [] (tapeD c i left seed salt) = tapeD c i left seed salt := by
  unfold tapeD mergeK
  simp only [List.foldl_cons, List.foldl_nil]
  rw [put_new (k := kS "cells") valV_nil, List.nil_append]
  rw [put_new (k := kS "at") ((valV_neg n01).trans valV_nil)]
  simp only [List.cons_append, List.nil_append]
  rw [put_new (k := kS "left") ((valV_neg n02).trans ((valV_neg n12).trans valV_nil))]
  simp only [List.cons_append, List.nil_append]
  rw [put_new (k := kS "seed") ((valV_neg n03).trans ((valV_neg n13).trans ((valV_neg n23).trans valV_nil)))]
  simp only [List.cons_append, List.nil_append]
  rw [put_new (k := kS "salt") ((valV_neg n04).trans ((valV_neg n14).trans ((valV_neg n24).trans ((valV_neg n34).trans valV_nil))))]
  rfl
/-- d is a tape: what it holds is not told, but that it is in order -/
structure TapeIs (H : Hp) (d c : Addr) (ns : List Int) (i : Nat) (left seed salt : Int) : Prop where
  hd : H d = some (.dK (tapeD c i left seed salt))
  hc : H c = some (.lst (ns.map V.int))
  hi : i ≤ ns.length
  hn : ∀ n ∈ ns, 0 ≤ n
  hl : 0 ≤ left
  hs : 0 ≤ seed ∧ seed < 2 ^ 62
  ht : 0 ≤ salt
section
variable {H : Hp} {d c : Addr} {ns : List Int} {i : Nat} {left seed salt : Int}
theorem TapeIs.gcells (t : TapeIs H d c ns i left seed salt) : DGet H d (.str "cells") (some (.ref c)) := t_cells (i := i) (left := left) (seed := seed) (salt := salt) ▸ DGet.k (k := kS "cells") t.hd
theorem TapeIs.gat (t : TapeIs H d c ns i left seed salt) : DGet H d (.str "at") (some (.int i)) := t_at (c := c) (left := left) (seed := seed) (salt := salt) ▸ DGet.k (k := kS "at") t.hd
theorem TapeIs.gleft (t : TapeIs H d c ns i left seed salt) : DGet H d (.str "left") (some (.int left)) := t_left (c := c) (i := i) (seed := seed) (salt := salt) ▸ DGet.k (k := kS "left") t.hd
theorem TapeIs.gseed (t : TapeIs H d c ns i left seed salt) : DGet H d (.str "seed") (some (.int seed)) := t_seed (c := c) (i := i) (left := left) (salt := salt) ▸ DGet.k (k := kS "seed") t.hd
theorem TapeIs.gsalt (t : TapeIs H d c ns i left seed salt) : DGet H d (.str "salt") (some (.int salt)) := t_salt (c := c) (i := i) (left := left) (seed := seed) ▸ DGet.k (k := kS "salt") t.hd
theorem TapeIs.pat (t : TapeIs H d c ns i left seed salt) (v : Int) : DPut H d (.str "at") (.int v) (upd H d (.dK (tapeD c v left seed salt))) := p_at (c := c) (i := i) (left := left) (seed := seed) (salt := salt) (v := v) ▸ DPut.k (k := kS "at") t.hd (by show 5 < sizeLine; decide)
theorem TapeIs.pleft (t : TapeIs H d c ns i left seed salt) (v : Int) : DPut H d (.str "left") (.int v) (upd H d (.dK (tapeD c i v seed salt))) := p_left (c := c) (i := i) (left := left) (seed := seed) (salt := salt) (v := v) ▸ DPut.k (k := kS "left") t.hd (by show 5 < sizeLine; decide)
theorem TapeIs.psalt (t : TapeIs H d c ns i left seed salt) (v : Int) : DPut H d (.str "salt") (.int v) (upd H d (.dK (tapeD c i left seed v))) := p_salt (c := c) (i := i) (left := left) (seed := seed) (salt := salt) (v := v) ▸ DPut.k (k := kS "salt") t.hd (by show 5 < sizeLine; decide)
theorem TapeIs.cd (t : TapeIs H d c ns i left seed salt) : c ≠ d := ne_of t.hc t.hd (by intro z; cases z)
theorem TapeIs.set (t : TapeIs H d c ns i left seed salt) {j : Nat} {l s : Int} (hj : j ≤ ns.length) (hl : 0 ≤ l) (hs : 0 ≤ s) : TapeIs (upd H d (.dK (tapeD c j l seed s))) d c ns j l seed s :=
  ⟨upd_same, by rw [upd_ne t.cd]; exact t.hc, hj, t.hn, hl, t.hs, hs⟩
end
def Tape (H : Hp) (d c : Addr) : Prop := ∃ ns i left seed salt, TapeIs H d c ns i left seed salt
/-- all but what stands at d is as it was -/
def Off (d : Addr) (H H' : Hp) : Prop := ∀ b, b ≠ d → H' b = H b
theorem Off.refl {d : Addr} {H : Hp} : Off d H H := fun _ _ => rfl
theorem Off.trans {d : Addr} {H H1 H2 : Hp} (a : Off d H H1) (b : Off d H1 H2) : Off d H H2 := fun x hx => (b x hx).trans (a x hx)
theorem off_upd {d : Addr} {H : Hp} {o : HO} : Off d H (upd H d o) := fun b hb => upd_ne hb
/-- all that stood, d apart, stands as it was -/
def Kept (d : Addr) (H H' : Hp) : Prop := ∀ b o, b ≠ d → H b = some o → H' b = some o
theorem Kept.refl {d : Addr} {H : Hp} : Kept d H H := fun _ _ _ h => h
theorem Kept.trans {d : Addr} {H H1 H2 : Hp} (a : Kept d H H1) (b : Kept d H1 H2) : Kept d H H2 := fun x o hx h => b x o hx (a x o hx h)
theorem Kept.of {d : Addr} {H H' : Hp} (s : Same H H') : Kept d H H' := fun b o _ h => s b o h
theorem Off.kept {d : Addr} {H H' : Hp} (s : Off d H H') : Kept d H H' := fun b o hb h => (s b hb).trans h
theorem Tape.at' {H H' : Hp} {d c : Addr} (h : Tape H d c) (e1 : H' d = H d) (e2 : H' c = H c) : Tape H' d c := by
  obtain ⟨ns, i, l, se, sa, h⟩ := h
  exact ⟨ns, i, l, se, sa, e1.trans h.hd, e2.trans h.hc, h.hi, h.hn, h.hl, h.hs, h.ht⟩
theorem Tape.keep {H H' : Hp} {d c : Addr} (s : Same H H') (h : Tape H d c) : Tape H' d c := by
  obtain ⟨ns, i, l, se, sa, h⟩ := h
  exact ⟨ns, i, l, se, sa, s _ _ h.hd, s _ _ h.hc, h.hi, h.hn, h.hl, h.hs, h.ht⟩
/-- a fresh address is not the tape's -/
theorem Tape.ne {H : Hp} {d c p : Addr} (h : Tape H d c) (hp : H p = none) : p ≠ d ∧ p ≠ c := by
  obtain ⟨ns, i, l, se, sa, h⟩ := h
  exact ⟨(ne_of_none h.hd hp).symm, (ne_of_none h.hc hp).symm⟩
theorem Tape.put {H : Hp} {d c p : Addr} {o : HO} (h : Tape H d c) (hp : p ≠ d ∧ p ≠ c) : Tape (upd H p o) d c := h.at' (upd_ne hp.1.symm) (upd_ne hp.2.symm)
theorem Kept.upd {H H' : Hp} {d p : Addr} {o : HO} (k : Kept d H H') (hp : H p = none) : Kept d H (upd H' p o) := fun b u hb e => by
  rw [upd_ne (ne_of_none e hp)]
  exact k b u hb e
def spTape (K : PySem.W.Frag) : Sp := fun vs H Q _ => ∃ (a : Addr) (ns : List Int), vs = [.ref a] ∧ SqL K H a (ns.map V.int) ∧ ns.length ≤ 63 ∧ ∀ d c H', Same H H' → H d = none → H c = none → Tape H' d c → Q (.ref d) H'
def spTake : Sp := fun vs H Q _ => ∃ (d c : Addr) (m : Int), vs = [.ref d, .int m] ∧ Tape H d c ∧ 0 < m ∧ m < 1000000 ∧ ∀ r H', 0 ≤ r → r < m → Tape H' d c → Off d H H' → Q (.int r) H'
end OS

/-! Dicts from nested tuples to ints. -/
namespace OS
open PySem PySem.Spec PyProof.Rows L2
mutual
/-- data as a key -/
def nkD : Dt → NestedKey
  | .non => .none
  | .bl b => .num (if b = true then 1 else 0)
  | .int i => .num i
  | .str x => .text x
  | .tup xs => .tup (nkL xs)
  | .lst _ => .none
def nkL : List Dt → List NestedKey
  | [] => []
  | d :: r => nkD d :: nkL r
end
mutual
/-- data that may be a key, or a part of one: no lists, no bools -/
def kable : Dt → Prop
  | .non => True
  | .bl _ => False
  | .int _ => True
  | .str _ => True
  | .tup xs => kableL xs
  | .lst _ => False
def kableL : List Dt → Prop
  | [] => True
  | d :: r => kable d ∧ kableL r
end
mutual
theorem nk_inj : ∀ {a b : Dt}, kable a → kable b → nkD a = nkD b → a = b
  | .non, .non, _, _, _ => rfl
  | .int i, .int j, _, _, h => by
    simp only [nkD] at h
    injection h with h
    rw [h]
  | .str i, .str j, _, _, h => by
    simp only [nkD] at h
    injection h with h
    rw [h]
  | .tup x, .tup y, h1, h2, h => by
    simp only [nkD] at h
    injection h with h
    simp only [kable] at h1 h2
    rw [nkL_inj h1 h2 h]
  | .bl _, _, h1, _, _ => by simp only [kable] at h1
  | _, .bl _, _, h2, _ => by simp only [kable] at h2
  | .lst _, _, h1, _, _ => by simp only [kable] at h1
  | _, .lst _, _, h2, _ => by simp only [kable] at h2
  | .non, .int _, _, _, h => by simp only [nkD] at h; cases h
  | .non, .str _, _, _, h => by simp only [nkD] at h; cases h
  | .non, .tup _, _, _, h => by simp only [nkD] at h; cases h
  | .int _, .non, _, _, h => by simp only [nkD] at h; cases h
  | .int _, .str _, _, _, h => by simp only [nkD] at h; cases h
  | .int _, .tup _, _, _, h => by simp only [nkD] at h; cases h
  | .str _, .non, _, _, h => by simp only [nkD] at h; cases h
  | .str _, .int _, _, _, h => by simp only [nkD] at h; cases h
  | .str _, .tup _, _, _, h => by simp only [nkD] at h; cases h
  | .tup _, .non, _, _, h => by simp only [nkD] at h; cases h
  | .tup _, .int _, _, _, h => by simp only [nkD] at h; cases h
  | .tup _, .str _, _, _, h => by simp only [nkD] at h; cases h
theorem nkL_inj : ∀ {a b : List Dt}, kableL a → kableL b → nkL a = nkL b → a = b
  | [], [], _, _, _ => rfl
  | x :: r, y :: q, h1, h2, h => by
    simp only [nkL] at h
    injection h with e1 e2
    simp only [kableL] at h1 h2
    rw [nk_inj h1.1 h2.1 e1, nkL_inj h1.2 h2.2 e2]
  | [], _ :: _, _, _, h => by simp only [nkL] at h; cases h
  | _ :: _, [], _, _, h => by simp only [nkL] at h; cases h
end
mutual
theorem nk_depth : ∀ {a : Dt}, kable a → (nkD a).depth = dep a
  | .non, _ => by simp only [nkD, NestedKey.depth, dep]
  | .int _, _ => by simp only [nkD, NestedKey.depth, dep]
  | .str _, _ => by simp only [nkD, NestedKey.depth, dep]
  | .tup xs, h => by
    simp only [kable] at h
    simp only [nkD, NestedKey.depth, dep]
    rw [nkL_depth h]
  | .bl _, h => by simp only [kable] at h
  | .lst _, h => by simp only [kable] at h
theorem nkL_depth : ∀ {a : List Dt}, kableL a → NestedKey.depthAll (nkL a) = depL a
  | [], _ => by simp only [nkL, NestedKey.depthAll, depL]
  | d :: r, h => by
    simp only [kableL] at h
    simp only [nkL, NestedKey.depthAll, depL]
    rw [nk_depth h.1, nkL_depth h.2]
end
section
variable {X : Cx} {pins : List (Addr × Obj)} {σ : L2.St} {H : Hp} {s : Shared}
mutual
theorem nk_is (I : Inv X pins σ H s) : ∀ {d : Dt} {v : V} {u : Value}, kable d → At X.K H d v → RelV v u → NestedIs s.heap (nkD d) u
  | .non, v, u, _, h, r => by
    unfold At at h
    subst h
    cases r
    simp only [nkD]
    exact .none
  | .int i, v, u, _, h, r => by
    unfold At at h
    subst h
    obtain ⟨t, rfl⟩ := r
    simp only [nkD]
    exact .int i t
  | .str x, v, u, _, h, r => by
    unfold At at h
    subst h
    obtain ⟨t, rfl⟩ := r
    simp only [nkD]
    exact .text x t
  | .tup xs, v, u, hk, h, r => by
    simp only [kable] at hk
    unfold At at h
    obtain ⟨p, vs, rfl, hp, hl⟩ := h
    obtain rfl : u = Value.ref p := r
    obtain ⟨_, its, rv, o, ho, hc, n, hd⟩ := (I.hok p _ hp : ObjOk X.prog X.w H s.heap p (.tup vs))
    simp only [nkD]
    exact .tup ho hc hd (by rw [List.toList_toArray]; exact nkL_is I hk hl rv)
  | .bl _, _, _, hk, _, _ => by simp only [kable] at hk
  | .lst _, _, _, hk, _, _ => by simp only [kable] at hk
theorem nkL_is (I : Inv X pins σ H s) : ∀ {ds : List Dt} {vs : List V} {us : List Value}, kableL ds → AtL X.K H ds vs → Vals vs us → NestedAll s.heap (nkL ds) us
  | [], vs, us, _, h, r => by
    unfold AtL at h
    subst h
    cases r
    simp only [nkL]
    exact .nil
  | d :: ds, vs, us, hk, h, r => by
    simp only [kableL] at hk
    unfold AtL at h
    obtain ⟨v, q, rfl, h1, h2⟩ := h
    cases r with
    | cons r1 r2 =>
      simp only [nkL]
      exact .cons (nk_is I hk.1 h1 r1) (nkL_is I hk.2 h2 r2)
end
end
/-- the dict at a has these entries, as they stand -/
def dkN (P : Program) (w : World) (a : Addr) (xs : List (NestedKey × Addr × Value)) : HO := .ext fun h => ∃ o es ep, h.get? a = some o ∧ o.ExactDict ∧ o.data = .dict es ep ∧ es.toList = xs.map (entryOfKey (nestedKind P w))
theorem dkN_ok {P : Program} {w : World} {H : Hp} {h : Heap} {a : Addr} {xs : List (NestedKey × Addr × Value)} (x : ∃ o es ep, h.get? a = some o ∧ o.ExactDict ∧ o.data = .dict es ep ∧ es.toList = xs.map (entryOfKey (nestedKind P w))) : ObjOk P w H h a (dkN P w a xs) := by
  refine ⟨x, ?_, ?_⟩
  · obtain ⟨o, _, _, e, _⟩ := x
    exact ⟨o, e⟩
  · rintro h1 h2 ⟨o, es, ep, e, r⟩ k
    exact ⟨o, es, ep, k o e, r⟩
/-- what a key is -/
structure Ky (K : PySem.W.Frag) (H : Hp) (d : Dt) (b : Addr) : Prop where
  cells : At K H d (.ref b)
  ok : kable d
  low : dep d ≤ 8
/-- a dict from data to ints, in the order of insertion -/
structure DkN (P : Program) (w : World) (K : PySem.W.Frag) (H : Hp) (a : Addr) (kvs : List (Dt × Int)) : Prop where
  ex : ∃ xs, H a = some (dkN P w a xs) ∧ Paired (fun (p : Dt × Int) (x : NestedKey × Addr × Value) => x.1 = nkD p.1 ∧ Ky K H p.1 x.2.1 ∧ ∃ t, x.2.2 = .int p.2 t) kvs xs
  nd : (kvs.map (·.1)).Nodup
  sz : kvs.length ≤ 100000
  nm : (a == sysModules) = false
def valI (kvs : List (Dt × Int)) (d : Dt) : Option Int := (kvs.find? fun p => decide (nkD p.1 = nkD d)).map (·.2)
theorem paired_len {α β : Type} {R : α → β → Prop} : ∀ {as : List α} {bs : List β}, Paired R as bs → as.length = bs.length
  | _, _, .nil => rfl
  | _, _, .cons _ r => congrArg (· + 1) (paired_len r)
theorem paired_mem {α β : Type} {R : α → β → Prop} : ∀ {as : List α} {bs : List β}, Paired R as bs → ∀ b ∈ bs, ∃ a ∈ as, R a b
  | _, _, .nil, _, h => by cases h
  | _, _, .cons h r, b, hb => by
    rcases List.mem_cons.mp hb with e | e
    · subst e
      exact ⟨_, List.mem_cons_self, h⟩
    · obtain ⟨a, ha, hr⟩ := paired_mem r b e
      exact ⟨a, List.mem_cons_of_mem _ ha, hr⟩
theorem paired_snoc {α β : Type} {R : α → β → Prop} : ∀ {as : List α} {bs : List β} {a : α} {b : β}, Paired R as bs → R a b → Paired R (as ++ [a]) (bs ++ [b])
  | _, _, _, _, .nil, h => .cons h .nil
  | _, _, _, _, .cons h0 r, h => .cons h0 (paired_snoc r h)
abbrev Ent (K : PySem.W.Frag) (H : Hp) (p : Dt × Int) (x : NestedKey × Addr × Value) : Prop := x.1 = nkD p.1 ∧ Ky K H p.1 x.2.1 ∧ ∃ t, x.2.2 = .int p.2 t
theorem ent_nodup {K : PySem.W.Frag} {H : Hp} : ∀ {kvs : List (Dt × Int)} {xs : List (NestedKey × Addr × Value)}, Paired (Ent K H) kvs xs → (kvs.map (·.1)).Nodup → (xs.map (·.1)).Nodup
  | _, _, .nil, _ => List.nodup_nil
  | _, _, .cons (a := p) (b := x) h r, hn => by
    rw [List.map_cons, List.nodup_cons] at hn ⊢
    refine ⟨fun hm => ?_, ent_nodup r hn.2⟩
    obtain ⟨y, hy, ey⟩ := List.mem_map.mp hm
    obtain ⟨q, hq, hR⟩ := paired_mem r y hy
    have e : nkD q.1 = nkD p.1 := by rw [← hR.1, ey, h.1]
    have := nk_inj hR.2.1.ok h.2.1.ok e
    exact hn.1 (List.mem_map.mpr ⟨q, hq, this⟩)
theorem ent_at {K : PySem.W.Frag} {H : Hp} {d : Dt} : ∀ {kvs : List (Dt × Int)} {xs : List (NestedKey × Addr × Value)}, Paired (Ent K H) kvs xs →
    (valI kvs d = none ∧ atKey xs (nkD d) = none) ∨ ∃ n b t, valI kvs d = some n ∧ atKey xs (nkD d) = some (b, .int n t)
  | _, _, .nil => .inl ⟨rfl, rfl⟩
  | _, _, .cons (l₁ := kvs) (l₂ := xs) (a := p) (b := x) h r => by
    obtain ⟨e1, _, t, e2⟩ := h
    by_cases c : nkD p.1 = nkD d
    · refine .inr ⟨p.2, x.2.1, t, ?_, ?_⟩
      · unfold valI
        rw [List.find?_cons, decide_eq_true c]
        rfl
      · unfold atKey
        rw [List.find?_cons, e1, decide_eq_true c]
        show some x.2 = _
        rw [← e2]
    · have f1 : valI (p :: kvs) d = valI kvs d := by
        unfold valI
        rw [List.find?_cons, decide_eq_false c]
      have f2 : atKey (x :: xs) (nkD d) = atKey xs (nkD d) := by
        unfold atKey
        rw [List.find?_cons, e1, decide_eq_false c]
      rw [f1, f2]
      exact ent_at r
theorem ent_keep {K : PySem.W.Frag} {H H' : Hp} (k : ∀ d b, Ky K H d b → Ky K H' d b) : ∀ {kvs : List (Dt × Int)} {xs : List (NestedKey × Addr × Value)}, Paired (Ent K H) kvs xs → Paired (Ent K H') kvs xs
  | _, _, .nil => .nil
  | _, _, .cons h r => .cons ⟨h.1, k _ _ h.2.1, h.2.2⟩ (ent_keep k r)
mutual
/-- keys stand where no tuple is touched -/
theorem ky_at {K : PySem.W.Frag} {H H' : Hp} (k : ∀ b xs, H b = some (.tup xs) → H' b = some (.tup xs)) : ∀ {d : Dt} {v : V}, kable d → At K H d v → At K H' d v
  | .non, v, _, h => by unfold At at h ⊢; exact h
  | .int i, v, _, h => by unfold At at h ⊢; exact h
  | .str x, v, _, h => by unfold At at h ⊢; exact h
  | .tup xs, v, hk, h => by
    simp only [kable] at hk
    unfold At at h ⊢
    obtain ⟨p, vs, e, hp, hl⟩ := h
    exact ⟨p, vs, e, k _ _ hp, kyL_at k hk hl⟩
  | .bl _, _, hk, _ => by simp only [kable] at hk
  | .lst _, _, hk, _ => by simp only [kable] at hk
theorem kyL_at {K : PySem.W.Frag} {H H' : Hp} (k : ∀ b xs, H b = some (.tup xs) → H' b = some (.tup xs)) : ∀ {ds : List Dt} {vs : List V}, kableL ds → AtL K H ds vs → AtL K H' ds vs
  | [], vs, _, h => by unfold AtL at h ⊢; exact h
  | d :: ds, vs, hk, h => by
    simp only [kableL] at hk
    unfold AtL at h ⊢
    obtain ⟨v, r, e, hd, hl⟩ := h
    exact ⟨v, r, e, ky_at k hk.1 hd, kyL_at k hk.2 hl⟩
end
theorem Ky.keep {K : PySem.W.Frag} {H H' : Hp} (k : ∀ b xs, H b = some (.tup xs) → H' b = some (.tup xs)) {d : Dt} {b : Addr} (h : Ky K H d b) : Ky K H' d b := ⟨ky_at k h.ok h.cells, h.ok, h.low⟩
/-- the dict stays where it and the tuples stay -/
theorem DkN.keep {P : Program} {w : World} {K : PySem.W.Frag} {H H' : Hp} {a : Addr} {kvs : List (Dt × Int)} (k : ∀ b xs, H b = some (.tup xs) → H' b = some (.tup xs)) (ka : ∀ u, H a = some u → H' a = some u) (h : DkN P w K H a kvs) : DkN P w K H' a kvs := by
  obtain ⟨⟨xs, e, p⟩, h2, h3, h4⟩ := h
  exact ⟨⟨xs, ka _ e, ent_keep (fun _ _ => Ky.keep k) p⟩, h2, h3, h4⟩
section
variable {X : Cx} {pins : List (Addr × Obj)} {σ : L2.St} {H : Hp} {s : Shared} {a : Addr} {kvs : List (Dt × Int)}
theorem DkN.at (I : Inv X pins σ H s) (h : DkN X.prog X.w X.K H a kvs) : ∃ xs, s.heap.DictOfH (nestedKind X.prog X.w) a xs ∧ H a = some (dkN X.prog X.w a xs) ∧ Paired (Ent X.K H) kvs xs ∧ xs.length ≤ sizeLine := by
  obtain ⟨⟨xs, e, p⟩, h2, h3, h4⟩ := h
  obtain ⟨o, es, ep, e1, e2, e3, e4⟩ := (I.hok a _ e : ObjOk X.prog X.w H s.heap a (dkN X.prog X.w a xs)).1
  refine ⟨xs, ⟨o, es, ep, e1, e2, e3, e4, fun x hx => ?_, ent_nodup p h2⟩, e, p, ?_⟩
  · obtain ⟨q, _, hR⟩ := paired_mem p x hx
    obtain ⟨r1, r2, _⟩ := hR
    refine ⟨?_, ?_⟩
    · rw [r1]
      exact nk_is I r2.ok r2.cells rfl
    · rw [r1, nk_depth r2.ok]
      exact r2.low
  · rw [← paired_len p]
    exact sz6 h3
theorem ky_is (I : Inv X pins σ H s) {d : Dt} {b : Addr} (k : Ky X.K H d b) : (nestedKind X.prog X.w).is s.heap (nkD d) b := ⟨nk_is I k.ok k.cells rfl, by rw [nk_depth k.ok]; exact k.low⟩
/-- {} -/
def tDNewN (P : Program) (w : World) : TE := fun _ H Q => ∀ p, H p = none → (p == sysModules) = false → Q (.ref p) (upd H p (dkN P w p []))
theorem pe_dnewN {pos : Pos} : PE X (.Dict [] [] pos) (tDNewN X.prog X.w) := ⟨fun pins s σ H Q I h =>
  wpAny_Dict_empty ⟨.ref s.heap.objs.size, _, I.laid (a := s.heap.objs.size) (o := dkN X.prog X.w s.heap.objs.size []) (t' := s.toks) (fun _ _ q => Heap.get?_push_of_some _ q) (Nat.le_refl _) (dkN_ok ⟨_, #[], 0, Heap.get?_push_size _ rfl, ⟨rfl, rfl, rfl⟩, rfl, rfl⟩), rfl,
    h _ (I.hok.fresh (Nat.le_refl _)) (beq_eq_false_iff_ne.mpr (Ne.symm (Nat.ne_of_lt I.big)))⟩⟩
theorem DkN.new {P : Program} {w : World} {K : PySem.W.Frag} {H : Hp} {p : Addr} (hp : (p == sysModules) = false) : DkN P w K (upd H p (dkN P w p [])) p [] := ⟨⟨[], upd_same, .nil⟩, List.nodup_nil, Nat.zero_le _, hp⟩
/-- d.setdefault(key, n) -/
def tSetdN (P : Program) (w : World) (K : PySem.W.Frag) (td ty tx : TE) : TE := fun σ H Q => td σ H fun x H1 => ∃ a kvs0, x = .ref a ∧ DkN P w K H1 a kvs0 ∧ ty σ H1 fun y H2 => tx σ H2 fun z H3 =>
  ∃ kvs d b n, DkN P w K H3 a kvs ∧ y = .ref b ∧ Ky K H3 d b ∧ z = .int n ∧ kvs.length < 100000 ∧ (∀ m, valI kvs d = some m → Q (.int m) H3) ∧ (valI kvs d = none → ∀ H4, DkN P w K H4 a (kvs ++ [(d, n)]) → (∀ c, c ≠ a → H4 c = H3 c) → Q (.int n) H4)
theorem pe_setdN {o e f : Expr} {td ty tx : TE} {apos cpos : Pos} (hu : X.A.units + 64 < cLine) (ho : PE X o td) (he : PE X e ty) (hf : PE X f tx) (m : M2 X o "setdefault" apos e f cpos) : PE X (.Call (.Attribute o "setdefault" apos) [e, f] [] cpos) (tSetdN X.prog X.w X.K td ty tx) := by
  refine ⟨fun pins s σ H Q I h => ?_⟩
  refine wpAny_Call_method m.base m.few m.line PySem.F.plainAttrs_dict PySem.F.slot_dict_setdefault PySem.F.type_dict_setdefault (thn (ho.run pins s σ H _ I h) ?_)
  rintro u0 s1 ⟨x, H1, I1, rx, a, kvs0, rfl, hd0, q1⟩
  obtain rfl : u0 = Value.ref a := rx
  obtain ⟨xs0, dd0, _, _, _⟩ := hd0.at I1
  refine ⟨dd0.typeIs, fun b eb => ?_, ?_⟩
  · cases eb
    obtain ⟨ob, _, _, g1, g2, _⟩ := dd0
    exact ⟨ob, g1, g2.2.1⟩
  rw [m.trees]
  refine Calls.callWith_builtin rfl (Calls.evalArgs_plain (Calls.spliced_cons (thn (he.run pins s1 σ H1 _ I1 q1) ?_)))
  rintro iv s2 ⟨y, H2, I2, ry, q2⟩
  refine Calls.spliced_cons (thn (hf.run pins s2 σ H2 _ I2 q2) ?_)
  rintro fv s3 ⟨z, H3, I3, rz, kvs, d, b, n, hd, rfl, hk, rfl, hl, g1, g2⟩
  refine Calls.spliced_nil ?_
  obtain rfl : iv = Value.ref b := ry
  obtain ⟨tz, rfl⟩ := (show ∃ t, fv = Value.int n t from rz)
  obtain ⟨xs, dd, hx, hp, hsz⟩ := hd.at I3
  have rm : (nestedKind X.prog X.w).room X.A.in1 := by
    show X.A.units + 1 + 8 < cLine
    omega
  refine call_setdefault_heap (hsz := hsz) rm (ky_is I3 hk) hd.nm dd (fun p hp2 => ?_) fun hn h' dd' hs => ?_
  · rcases ent_at (d := d) hp with ⟨_, e2⟩ | ⟨m, b2, t, e1, e2⟩
    · rw [e2] at hp2
      cases hp2
    · rw [e2] at hp2
      have hp2 := Option.some.inj hp2
      subst hp2
      exact ⟨.int m, H3, I3.tok _, ⟨t, rfl⟩, g1 m e1⟩
  · rcases ent_at (d := d) hp with ⟨e1, _⟩ | ⟨m, b2, t, _, e2⟩
    · rw [storedH_new hn] at dd'
      obtain ⟨ob, es, ep, f1, f2, f3, f4, _, _⟩ := dd'
      have hnew : ∀ c, c ≠ a → upd H3 a (dkN X.prog X.w a (xs ++ [(nkD d, b, .int n tz)])) c = H3 c := fun c hc => upd_ne hc
      have tupk : ∀ c ys, H3 c = some (.tup ys) → upd H3 a (dkN X.prog X.w a (xs ++ [(nkD d, b, .int n tz)])) c = some (.tup ys) := fun c ys e => by
        rw [upd_ne (fun z => by rw [z, hx] at e; cases e)]
        exact e
      refine ⟨.int n, upd H3 a (dkN X.prog X.w a (xs ++ [(nkD d, b, .int n tz)])), I3.write (e := a) (by rw [hx]; exact trivial) (.inl rfl) (fun c ob2 hc e => (hs.2 c hc).trans e) ⟨ob, f1⟩ (dkN_ok ⟨ob, es, ep, f1, f2, f3, f4⟩), ⟨_, rfl⟩, ?_⟩
      refine g2 e1 _ ⟨⟨_, upd_same, paired_snoc (ent_keep (fun _ _ => Ky.keep tupk) hp) ⟨rfl, hk.keep tupk, tz, rfl⟩⟩, ?_, ?_, hd.nm⟩ hnew
      · rw [List.map_append]
        refine List.nodup_append.mpr ⟨hd.nd, by simp, fun u hu v hv => ?_⟩
        rw [List.map_singleton, List.mem_singleton] at hv
        subst hv
        intro euv
        subst euv
        obtain ⟨q, hq, eq⟩ := List.mem_map.mp hu
        unfold valI at e1
        have := List.find?_eq_none.mp (Option.map_eq_none_iff.mp e1) q hq
        rw [eq] at this
        simp at this
      · rw [List.length_append]
        show kvs.length + 1 ≤ _
        omega
    · rw [e2] at hn
      cases hn
theorem call_lenN : CallR X (.builtin "len") (fun xs H Q => ∃ (a : Addr) (kvs : List (Dt × Int)), xs = [.ref a] ∧ DkN X.prog X.w X.K H a kvs ∧ Q (.int ((kvs.length : Nat) : Int)) H) := by
  intro pins s σ H xs us Q I r h
  obtain ⟨a, kvs, rfl, hd, q⟩ := h
  cases r with
  | cons rx rr =>
    cases rr
    cases rx
    obtain ⟨ys, dd, _, hp, hsz⟩ := hd.at I
    have hm : s.heap.DictKeyed (nestedKind X.prog X.w) a (pairsH ys) := ⟨ys, dd, rfl⟩
    have hl : (pairsH ys).length = kvs.length := by rw [pairsH_length, paired_len hp]
    have hs := hd.sz
    have hn63 := line63
    refine PyProof.Rows.call_len_slot (n := (((pairsH ys).length : Nat) : Int)) hm.typeIs PySem.F.slot_dict_len (fun Q2 hq => len_keyed hd.nm hm hq) (by omega) (by rw [hl]; have : kvs.length ≤ sizeLine := sz6 hs; omega) ?_
    rw [hl]
    exact ⟨.int ((kvs.length : Nat) : Int), H, I.tok _, ⟨_, rfl⟩, q⟩
/-- d[key] -/
def tDGetN (P : Program) (w : World) (K : PySem.W.Frag) (td ty : TE) : TE := fun σ H Q => td σ H fun x H1 => ty σ H1 fun y H2 => ∃ a kvs d b n, x = .ref a ∧ DkN P w K H2 a kvs ∧ y = .ref b ∧ Ky K H2 d b ∧ valI kvs d = some n ∧ Q (.int n) H2
theorem pe_dgetN {o i : Expr} {td ty : TE} {pos : Pos} (hu : X.A.units + 64 < cLine) (ho : PE X o td) (hi : PE X i ty) (hs : NoSl i) : PE X (.Subscript o i pos) (tDGetN X.prog X.w X.K td ty) := by
  refine ⟨fun pins s σ H Q I h => ?_⟩
  refine subD_of PySem.F.slot_dict_getitem.lookup hs (thn (ho.run pins s σ H _ I h) ?_)
  rintro u0 s1 ⟨x, H1, I1, rx, q1⟩
  refine thn (hi.run pins s1 σ H1 _ I1 q1) ?_
  rintro iv s2 ⟨y, H2, I2, ry, a, kvs, d, b, n, rfl, hd, rfl, hk, hv, q⟩
  obtain rfl : u0 = Value.ref a := rx
  obtain rfl : iv = Value.ref b := ry
  obtain ⟨xs, dd, _, hp, _⟩ := hd.at I2
  have rm : (nestedKind X.prog X.w).room X.A.in1 := by
    show X.A.units + 1 + 8 < cLine
    omega
  refine ⟨dd.typeIs, ?_⟩
  rcases ent_at (d := d) hp with ⟨e1, _⟩ | ⟨m, b2, t, e1, e2⟩
  · rw [hv] at e1
    cases e1
  · rw [hv] at e1
    have e1 := Option.some.inj e1
    subst e1
    exact wpAny_getItem_heap rm (ky_is I2 hk) dd e2 ⟨.int n, H2, I2.tok _, ⟨t, rfl⟩, q⟩
end
end OS

/-! The flat keys of trees; numbers of keys; list.extend with a tuple; len(set(ints)). -/
namespace OS
open PySem PySem.Spec PyProof.Rows L2
mutual
def szD : Dt → Nat
  | .tup xs => szDL xs + 1
  | .non => 1
  | .bl _ => 1
  | .int _ => 1
  | .str _ => 1
  | .lst _ => 1
def szDL : List Dt → Nat
  | [] => 0
  | d :: r => szD d + szDL r
end
theorem szD_pos : ∀ d : Dt, 1 ≤ szD d
  | .tup xs => by simp only [szD]; omega
  | .non => by simp only [szD]; omega
  | .bl _ => by simp only [szD]; omega
  | .int _ => by simp only [szD]; omega
  | .str _ => by simp only [szD]; omega
  | .lst _ => by simp only [szD]; omega
theorem szDL_app : ∀ a b : List Dt, szDL (a ++ b) = szDL a + szDL b
  | [], b => by show szDL b = 0 + szDL b; omega
  | x :: r, b => by
    show szD x + szDL (r ++ b) = szD x + szDL r + szDL b
    rw [szDL_app r b]
    omega
theorem szDL_rev : ∀ a : List Dt, szDL a.reverse = szDL a
  | [] => rfl
  | x :: r => by
    rw [List.reverse_cons, szDL_app, szDL_rev r]
    show szDL r + (szD x + 0) = szD x + szDL r
    omega
theorem szDL_len : ∀ a : List Dt, a.length ≤ szDL a
  | [] => Nat.le_refl _
  | x :: r => by
    have := szDL_len r
    have := szD_pos x
    show r.length + 1 ≤ szD x + szDL r
    omega
/-- the parts of what waits, the next one first -/
def flatF : Nat → List Dt → List Dt
  | 0, _ => []
  | _ + 1, [] => []
  | n + 1, .tup xs :: r => .tup [.int (xs.length : Nat)] :: flatF n (xs.reverse ++ r)
  | n + 1, .non :: r => .non :: flatF n r
  | n + 1, .bl b :: r => .bl b :: flatF n r
  | n + 1, .int i :: r => .int i :: flatF n r
  | n + 1, .str x :: r => .str x :: flatF n r
  | n + 1, .lst xs :: r => .lst xs :: flatF n r
def isTup : Dt → Bool
  | .tup _ => true
  | _ => false
theorem flat_leaf {n : Nat} {d : Dt} {r : List Dt} (h : isTup d = false) : flatF (n + 1) (d :: r) = d :: flatF n r := by
  cases d with
  | tup xs => cases h
  | _ => rfl
theorem flat_nil (n : Nat) : flatF n [] = [] := by cases n <;> rfl
theorem flat_inj : ∀ (n m : Nat) (a b : List Dt), szDL a ≤ n → szDL b ≤ m → flatF n a = flatF m b → a = b
  | 0, m, a, b, h1, h2, e => by
    have l1 := szDL_len a
    have e1 : a = [] := List.eq_nil_of_length_eq_zero (by omega)
    subst e1
    cases b with
    | nil => rfl
    | cons y q =>
      have p := szD_pos y
      have h2 : szD y + szDL q ≤ m := h2
      obtain ⟨m', rfl⟩ : ∃ k, m = k + 1 := ⟨m - 1, by omega⟩
      rw [flat_nil] at e
      cases hy : isTup y with
      | true =>
        cases y with
        | tup ys => exact absurd e (by rw [show flatF (m' + 1) (.tup ys :: q) = .tup [.int (ys.length : Nat)] :: flatF m' (ys.reverse ++ q) from rfl]; simp)
        | _ => cases hy
      | false => rw [flat_leaf hy] at e; cases e
  | n + 1, m, a, b, h1, h2, e => by
    cases a with
    | nil =>
      rw [flat_nil] at e
      cases b with
      | nil => rfl
      | cons y q =>
        have p := szD_pos y
        have h2 : szD y + szDL q ≤ m := h2
        obtain ⟨m', rfl⟩ : ∃ k, m = k + 1 := ⟨m - 1, by omega⟩
        cases hy : isTup y with
        | true =>
          cases y with
          | tup ys => exact absurd e (by rw [show flatF (m' + 1) (.tup ys :: q) = .tup [.int (ys.length : Nat)] :: flatF m' (ys.reverse ++ q) from rfl]; simp)
          | _ => cases hy
        | false => rw [flat_leaf hy] at e; cases e
    | cons x r =>
      have h1 : szD x + szDL r ≤ n + 1 := h1
      have px := szD_pos x
      cases b with
      | nil =>
        rw [flat_nil] at e
        cases hx : isTup x with
        | true =>
          cases x with
          | tup xs => exact absurd e (by rw [show flatF (n + 1) (.tup xs :: r) = .tup [.int (xs.length : Nat)] :: flatF n (xs.reverse ++ r) from rfl]; simp)
          | _ => cases hx
        | false => rw [flat_leaf hx] at e; cases e
      | cons y q =>
        have p := szD_pos y
        have h2 : szD y + szDL q ≤ m := h2
        obtain ⟨m', rfl⟩ : ∃ k, m = k + 1 := ⟨m - 1, by omega⟩
        cases hx : isTup x with
        | true =>
          cases x with
          | tup xs =>
            have e1 : flatF (n + 1) (.tup xs :: r) = .tup [.int (xs.length : Nat)] :: flatF n (xs.reverse ++ r) := rfl
            rw [e1] at e
            cases hy : isTup y with
            | true =>
              cases y with
              | tup ys =>
                have e2 : flatF (m' + 1) (.tup ys :: q) = .tup [.int (ys.length : Nat)] :: flatF m' (ys.reverse ++ q) := rfl
                rw [e2] at e
                injection e with f1 f2
                injection f1 with f1
                injection f1 with f1
                injection f1 with f1
                have f1 : xs.length = ys.length := by omega
                have s1 : szD (.tup xs) = szDL xs + 1 := by simp only [szD]
                have s2 : szD (.tup ys) = szDL ys + 1 := by simp only [szD]
                have ih := flat_inj n m' (xs.reverse ++ r) (ys.reverse ++ q) (by rw [szDL_app, szDL_rev]; omega) (by rw [szDL_app, szDL_rev]; omega) f2
                have := List.append_inj ih (by simpa using f1)
                rw [List.reverse_inj.mp this.1, this.2]
              | _ => cases hy
            | false =>
              rw [flat_leaf hy] at e
              injection e with f1 f2
              rw [← f1] at hy
              cases hy
          | _ => cases hx
        | false =>
          rw [flat_leaf hx] at e
          cases hy : isTup y with
          | true =>
            cases y with
            | tup ys =>
              have e2 : flatF (m' + 1) (.tup ys :: q) = .tup [.int (ys.length : Nat)] :: flatF m' (ys.reverse ++ q) := rfl
              rw [e2] at e
              injection e with f1 f2
              rw [f1] at hx
              cases hx
            | _ => cases hy
          | false =>
            rw [flat_leaf hy] at e
            injection e with f1 f2
            rw [f1, flat_inj n m' r q (by omega) (by omega) f2]
/-- the key of a tree -/
def keyD (d : Dt) : Dt := .tup (flatF (szD d) [d])
theorem keyD_inj {a b : Dt} (h : keyD a = keyD b) : a = b := by
  injection h with h
  have := flat_inj _ _ [a] [b] (by show szD a + 0 ≤ szD a; omega) (by show szD b + 0 ≤ szD b; omega) h
  injection this
/-! ### numbers of keys -/
section
variable {α : Type} [DecidableEq α]
/-- the keys in the order in which they are met first -/
def firsts : List α → List α → List α
  | acc, [] => acc
  | acc, x :: r => firsts (if x ∈ acc then acc else acc ++ [x]) r
def numb (ks : List α) : List Nat := ks.map fun k => (firsts [] ks).idxOf k
theorem firsts_sub : ∀ (ks acc : List α) (x : α), x ∈ acc → x ∈ firsts acc ks
  | [], acc, x, h => h
  | k :: r, acc, x, h => by
    unfold firsts
    refine firsts_sub r _ x ?_
    split
    · exact h
    · exact List.mem_append_left _ h
theorem firsts_mem : ∀ (ks acc : List α) (x : α), x ∈ ks → x ∈ firsts acc ks
  | k :: r, acc, x, h => by
    unfold firsts
    rcases List.mem_cons.mp h with e | h
    · subst e
      refine firsts_sub r _ x ?_
      split
      · assumption
      · exact List.mem_append_right _ (List.mem_singleton_self _)
    · exact firsts_mem r _ x h
theorem firsts_len : ∀ (ks acc : List α), (firsts acc ks).length ≤ acc.length + ks.length
  | [], acc => Nat.le_refl _
  | k :: r, acc => by
    unfold firsts
    have := firsts_len r (if k ∈ acc then acc else acc ++ [k])
    rw [List.length_cons]
    split at this
    · rename_i c
      rw [if_pos c]
      omega
    · rename_i c
      rw [if_neg c]
      rw [List.length_append, List.length_singleton] at this
      omega
theorem idx_inj : ∀ {l : List α} {x y : α}, x ∈ l → l.idxOf x = l.idxOf y → x = y
  | [], _, _, h, _ => by cases h
  | a :: l, x, y, h, e => by
    by_cases c1 : a = x
    · by_cases c2 : a = y
      · exact c1.symm.trans c2
      · rw [List.idxOf_cons, List.idxOf_cons, beq_iff_eq.mpr c1, beq_eq_false_iff_ne.mpr c2] at e
        simp at e
    · by_cases c2 : a = y
      · rw [List.idxOf_cons, List.idxOf_cons, beq_iff_eq.mpr c2, beq_eq_false_iff_ne.mpr c1] at e
        simp at e
      · rw [List.idxOf_cons, List.idxOf_cons, beq_eq_false_iff_ne.mpr c1, beq_eq_false_iff_ne.mpr c2] at e
        simp only [Bool.cond_false] at e
        rcases List.mem_cons.mp h with q | q
        · exact absurd q.symm c1
        · exact idx_inj q (by omega)
theorem numb_len (ks : List α) : (numb ks).length = ks.length := by unfold numb; rw [List.length_map]
theorem numb_eq (ks : List α) {i j : Nat} {x y : α} (hi : ks[i]? = some x) (hj : ks[j]? = some y) : ((numb ks)[i]? = (numb ks)[j]?) ↔ x = y := by
  unfold numb
  rw [List.getElem?_map, List.getElem?_map, hi, hj]
  constructor
  · intro e
    exact idx_inj (firsts_mem ks [] x (List.mem_iff_getElem?.mpr ⟨i, hi⟩)) (Option.some.inj e)
  · rintro rfl
    rfl
theorem numb_lt (ks : List α) {i n : Nat} (h : (numb ks)[i]? = some n) : n < ks.length := by
  unfold numb at h
  rw [List.getElem?_map] at h
  cases hx : ks[i]? with
  | none => rw [hx] at h; cases h
  | some x =>
    rw [hx] at h
    have h := Option.some.inj h
    subst h
    have hm := firsts_mem ks [] x (List.mem_iff_getElem?.mpr ⟨i, hx⟩)
    have h1 := List.idxOf_lt_length_of_mem hm
    have h2 := firsts_len ks []
    rw [List.length_nil, Nat.zero_add] at h2
    exact Nat.lt_of_lt_of_le h1 h2
end
section
open PySem.AutoSeq1 in
theorem meets_extT (l : Addr) (items : Array Value) (n : Nat) (b : Addr) (items2 : Array Value) (n2 : Nat) (od : Option Addr) (sl : Array (Option Value)) (hs0 : ¬(!items.isEmpty && Builtin.List.listTooLong (items.size + items2.size)) = true) (hs1 : items.size ≤ sizeLine) (hs2 : items.size + items2.size ≤ sizeLine + 1) :
    Meets (Builtin.«list.extend» ⟨[.ref l, .ref b], []⟩) (fun _ R s => s.heap.get? l = some { cls := .type "list", data := .seq items n } ∧ s.heap.get? b = some { cls := .type "tuple", dict := od, data := .seq items2 n2, slots := sl } ∧ R (.ok (.ret Value.none)) { s with heap := s.heap.update l (Obj.mapSeq fun x => x ++ items2), toks := s.toks }) :=
  .of_wp fun prog w A R s h => by
    obtain ⟨hp, g, d, tk, os⟩ := s
    obtain ⟨hl, hb, h⟩ := h
    have f1 := AutoSeq1.idx_int
    have f2 := AutoSeq1.sub_tuple_tuple
    have f3 := AutoSeq1.sub_list_list
    have f4 := AutoSeq1.sub_tuple_list
    have f5 := AutoSeq1.sub_list_tuple
    have hz' : (items ++ items2).size ≤ sizeLine + 1 := by rw [Array.size_append]; exact hs2
    wp_walk using (wpAny_updateSeq hl rfl (hz := hs1) (_hz' := hz')), wpAny_loadPart' hl, wpAny_loadPart' hb
    exact ⟨_, rfl, h⟩
end
section
variable {X : Cx}
/-- list.extend with a tuple -/
def rExtT : V → List V → Hp → VK → Prop := fun x vs H Q => ∃ l b xs zs, x = .ref l ∧ vs = [.ref b] ∧ H l = some (.lst xs) ∧ H b = some (.tup zs) ∧ xs.length + zs.length ≤ sizeLine ∧ Q .non (upd H l (.lst (xs ++ zs)))
theorem mt_extT : MtM X "list.extend" rExtT := by
  intro pins s σ H x vs v us Q I rx rv h
  obtain ⟨l, b, xs, zs, rfl, rfl, hH, hB, hz, q⟩ := h
  cases rx
  obtain ⟨u, rfl, ru⟩ := rv.one
  cases ru
  obtain ⟨z, its, n, r, hl, e⟩ := I.lstM hH
  obtain ⟨z2, its2, r2, o, g1, g2, n2, g3⟩ := (I.hok b _ hB : ObjOk X.prog X.w H s.heap b (.tup zs))
  have hl2 := r2.length
  obtain ⟨oc, od, oda, os⟩ := o
  cases g2
  cases g3
  have hsz : its.toArray.size + its2.toArray.size ≤ sizeLine := by rw [List.size_toArray, List.size_toArray]; omega
  have hlong : ¬ (!its.toArray.isEmpty && Builtin.List.listTooLong (its.toArray.size + its2.toArray.size)) = true := by
    rw [L2.notLongL hsz, Bool.and_false]
    exact Bool.false_ne_true
  refine call_meets PySem.F.slot_list_extend ⟨_, e, rfl⟩ PySem.F.entry_list_extend (PySem.F.args_list_extend_2 _ _)
    (meets_extT l its.toArray n b its2.toArray n2 _ _ hlong (by rw [List.size_toArray]; omega) (by omega)) ⟨e, g1, ?_⟩
  refine ⟨.non, _, I.lset (its' := its ++ its2) hH e (by simp) (r.append r2) ?_, rfl, q⟩
  rw [List.length_append]
  omega
/-- len(set(xs)), xs a list of ints -/
def tLenSetD (K : PySem.W.Frag) (ta : TE) : TE := fun σ H Q => ta σ H fun x H1 => ∃ (l : Addr) (ns : List Int), x = .ref l ∧ SqL K H1 l (ns.map V.int) ∧ ns.length ≤ 4000 ∧ Q (.int ((firsts [] ns).length : Nat)) H1
theorem met_firsts (ns : List Int) : ∀ acc : List Int, ns.foldl step_dedup acc = firsts acc ns := by
  induction ns with
  | nil => exact fun _ => rfl
  | cons x r ih =>
    intro acc
    rw [List.foldl_cons, ih]
    show firsts (step_dedup acc x) r = firsts (if x ∈ acc then acc else acc ++ [x]) r
    have e : step_dedup acc x = if x ∈ acc then acc else acc ++ [x] := by
      unfold step_dedup
      by_cases c : x ∈ acc
      · have a : (acc.any (· == x)) = true := List.any_eq_true.mpr ⟨x, c, beq_self_eq_true x⟩
        rw [if_pos c]
        simp only [a, if_true]
      · have a : (acc.any (· == x)) = false := by
          cases h : acc.any (· == x) with
          | false => rfl
          | true =>
            obtain ⟨y, hy, ey⟩ := List.any_eq_true.mp h
            exact absurd ((beq_iff_eq.mp ey) ▸ hy) c
        rw [if_neg c]
        simp only [a]
        rfl
    rw [e]
theorem firstMet_is (ns : List Int) : firstMet (fun i => ns.getD i 0) ns.length = firsts [] ns := by
  unfold firstMet
  rw [← met_firsts ns []]
  congr 1
  refine List.ext_getElem (by simp) fun i h1 h2 => ?_
  have hi : i < ns.length := h2
  rw [List.getElem_map, List.getElem_range, List.getD_eq_getElem?_getD, List.getElem?_eq_getElem hi]
  rfl
theorem pe_lenSetD {a : Expr} {ta : TE} {p p2 q pos : Pos} (hg : Gl X "len") (hm : X.mg "len" = none) (hg2 : Gl X "set") (hm2 : X.mg "set" = none) (ha : PE X a ta) (hc : X.calm = true := by rfl)
    (na : starEach [a] X.env = (false, eval a X.env) :: starEach [] X.env := by rfl) : PE X (.Call (.Name "len" p) [.Call (.Name "set" p2) [a] [] q] [] pos) (tLenSetD X.K ta) := by
  refine ⟨fun pins s σ H Q I h => ?_⟩
  refine Call_ (ld_blt I hg hm PySem.boot_len ?_)
  refine PyProof.Rows.callWith_builtin1 (PyProof.Rows.args_cons ?_ rfl) rfl rfl
  refine Call_ (ld_blt I hg2 hm2 PyProof.Rows.boot_set ?_)
  refine PyProof.Rows.callWith_type1 (PyProof.Rows.args_cons (thn (ha.run pins s σ H _ I h) fun v s1 ⟨x, H1, I1, r1, q1⟩ => PyProof.Rows.args_nil ?_) na) na rfl
  obtain ⟨l, ns, rfl, hq, hl, q1⟩ := q1
  cases r1
  obtain ⟨its, r, pl, hz⟩ := I1.list hq
  have hlen : its.toArray.size = ns.length := by rw [List.size_toArray, ← r.length, List.length_map]
  refine PySem.call_set_list (I1.ok.hd hc) pl.isList (by simpa using RZ.intsAre_vals r) (by rw [hlen]; unfold scanBound; omega) fun h' tk hS hk => ?_
  refine PyProof.Rows.args_nil ?_
  rw [hlen, firstMet_is] at hS
  have hf := firsts_len ns ([] : List Int)
  rw [List.length_nil] at hf
  obtain ⟨o, es, ep, t, ho, hex, hd, _, _, _, hf2, hn⟩ := hS
  have I2 : Inv X pins σ H1 { s1 with heap := h', toks := tk } := I1.kept fun b o e => hk b o (Heap.lt_size e) e
  exact call_len_set ho hex hd hf2 (by rw [hn] <;> omega) ⟨.int ((firsts [] ns).length : Nat), H1, I2.tok _, ⟨_, by rw [hn]⟩, q1⟩
end
end OS

/-! tuple(x[k] for x in rows): generator expressions over lists and tuples of tuples. -/
namespace OS
open PySem PySem.Spec PyProof.Rows L2 GxR
/-- the k-th items of rows -/
def Kth (H : Hp) (k : Nat) (vs ys : List V) : Prop := ys.length = vs.length ∧ ∀ (i : Nat) (a : V), vs[i]? = some a → ∃ (p : Addr) (row : List V) (y : V), a = V.ref p ∧ H p = some (HO.tup row) ∧ row[k]? = some y ∧ ys[i]? = some y
/-- x[k], x the generator's own name -/
theorem elt_kth {prog : Program} {w : World} {A : Around} {E : Value → Shared → Prop} {cenv : Env} {x : Str} {p : Addr} {items : Array Value} {kk : Nat} {y : Value} {s2 : Shared} {m2 : Str → Option Value} {j : Nat} {p1 p2 p3 : Pos}
    (hk : cenv.scope.kind = .function) (hl : cenv.scope.names.lookup x = some .local) (hn : s2.heap.Ns cenv.locals m2) (hm : m2 x = some (.ref p)) (ht : IsTup s2.heap p items) (hy : items[kk]? = some y) (hs : items.size ≤ sizeLine)
    (hd : (x == ("__debug__" : Str)) = false) {Q : Value → Shared → Prop} (q : ∀ t, Q y { s2 with toks := t }) : wpAny (model prog w) A (eval (.Subscript (.Name x p1) (.Constant (.int ((kk : Nat) : Int)) j p2) p3) cenv) Q E s2 := by
  refine Subscript_ (wpAny_Name (wpAny_loadName_local hk hl hn hm ?_) hd)
  have hi := (Array.getElem?_eq_some_iff.mp hy).1
  have hn63 := line63
  have ht2 : ∀ t, IsTup ({ s2 with toks := t } : Shared).heap p items := fun _ => ht
  have kj : seqIndex? ((kk : Nat) : Int) items.size = some kk := by
    rw [seqIndex_of (Int.natCast_nonneg _) (by omega)]
    exact congrArg some (Int.toNat_natCast kk)
  have fin : ∀ (u : Tok) (t : Nat), wpAny (model prog w) A (subscriptTail (.Name x p1) (.Constant (.int ((kk : Nat) : Int)) j p2) (.ref p) (.int ((kk : Nat) : Int) u)) Q E { s2 with toks := t } := fun u t =>
    subscriptTail_builtinR (x := y) (ht2 t).typeIs slot_tuple_getitem.lookup (PyProof.Rows.getItem_tuple (j := kk) (Q := fun r s' => r = y ∧ Q r s') (ht2 t) (by omega) (by omega) kj hy ⟨rfl, q t⟩) rfl
  exact wpAny_Constant_int (fin _ _)
theorem vals_of : ∀ {ys : List V} {us : List Value}, us.length = ys.length → (∀ (j : Nat) (v : Value), us[j]? = some v → ∃ y, ys[j]? = some y ∧ RelV y v) → Vals ys us
  | [], [], _, _ => .nil
  | [], _ :: _, h, _ => by simp at h
  | _ :: _, [], h, _ => by simp at h
  | y :: ys, u :: us, h, f => .cons (by
      obtain ⟨z, e, r⟩ := f 0 u rfl
      have e : y = z := Option.some.inj e
      rw [e]
      exact r) (vals_of (by simpa using h) fun j v e => f (j + 1) v e)
section
variable {X : Cx} {pins : List (Addr × Obj)} {σ : L2.St} {H : Hp} {s : Shared}
/-- the generator at g gives the values ys, in the state s5 -/
def Gives (X : Cx) (pins : List (Addr × Obj)) (σ : L2.St) (H1 : Hp) (P : Addr) (ys : List V) (g : Addr) (s5 : Shared) : Prop :=
  ∃ (fp wr : List Addr) (G : Array GenState → Array GenState → Prop) (F : Nat → Value → Prop) (St : Nat → Shared → Prop),
    WalksS X.prog X.w X.A.in4 g fp wr G ys.length F St ∧ St 0 s5 ∧ (∀ b ∈ fp, b < s5.heap.objs.size) ∧ g ∈ fp ∧ (∀ i s9, St i s9 → s9.TypeIs (.ref g) "generator") ∧
    (∀ j v, F j v → ∃ y, ys[j]? = some y ∧ RelV y v) ∧ ∀ s', Moved wr G s5 s' → ∃ H2, Tabbed P H1 H2 ∧ Inv X pins σ H2 s'
/-- the rows stand, and give their k-th items, wherever all but P and the iterator is kept -/
theorem rows_at {H1 : Hp} {s1 : Shared} {its : List Value} {vs ys : List V} {kk : Nat} (I1 : Inv X pins σ H1 s1) (rv : Vals vs its) (hK : Kth H1 kk vs ys) {i : Nat} {v : Value} (hv : its.toArray[i]? = some v) :
    ∃ (p : Addr) (items : Array Value) (y : V) (u : Value), v = .ref p ∧ IsTup s1.heap p items ∧ items.size ≤ sizeLine ∧ items[kk]? = some u ∧ RelV y u ∧ ys[i]? = some y ∧ H1 p ≠ none ∧ (∀ q, H1 p ≠ some (.tbl q)) := by
  have hv2 : its[i]? = some v := by simpa using hv
  have hl := rv.length
  have hi : i < vs.length := by
    have := (List.getElem?_eq_some_iff.mp hv2).1
    omega
  obtain ⟨p, row, y, e1, e2, e3, e4⟩ := hK.2 i vs[i] (List.getElem?_eq_getElem hi)
  obtain ⟨u, hu, ru⟩ := rv.get (show vs[i]? = some (V.ref p) by rw [List.getElem?_eq_getElem hi, e1])
  rw [hv2] at hu
  have hu := Option.some.inj hu
  subst hu
  obtain rfl : v = Value.ref p := ru
  obtain ⟨hz, us, r2, ht⟩ := (I1.hok p _ e2 : ObjOk X.prog X.w H1 s1.heap p (.tup row))
  obtain ⟨u2, hu2, ru2⟩ := r2.get e3
  refine ⟨p, us.toArray, y, u2, rfl, ht, ?_, by simpa using hu2, ru2, e4, ?_, ?_⟩
  · rw [List.size_toArray, ← r2.length]
    exact hz
  · rw [e2]
    exact fun z => by cases z
  · intro q z
    rw [e2] at z
    cases z
theorem gen_core {c P yl : Addr} {x : Str} {gpos p1 p2 p3 : Pos} {jk : Nat} {kk : Nat} {scope : Scope} {k : Nat} {Q2 : Value → Shared → Prop} {vs ys : List V} {its : List Value} {H1 : Hp} {s1 : Shared} {o : Obj} {St0 : Nat → Heap → Prop}
    (hr : Room k X.A) (TB : TabB X.base X.mg c P) (hcode : X.env.code = .ref c) (S : GenS X.env scope x) (hd : (x == ("__debug__" : Str)) = false)
    (I1 : Inv X pins σ H1 s1) (rv : Vals vs its) (hK : Kth H1 kk vs ys) (tg : TabG H1 P) (hyl : yl < s1.heap.objs.size) (hyP : yl ≠ P)
    (W0 : ∀ A' : Around, A'.handled = none → Walks X.prog X.w A' s1.heap.objs.size [s1.heap.objs.size, yl] [s1.heap.objs.size] its.toArray.size (fun i v => its.toArray[i]? = some v) St0) (st0 : St0 0 (s1.heap.push o))
    (hQ : ∀ g s5, Gives X pins σ H1 P ys g s5 → Q2 (.ref g) s5) :
    (s1.heap.push o).NoLimit ∧ wpAny (model X.prog X.w) X.A (genexprCode X.env gpos (X.env.qual ++ "<genexpr>") scope) (fun code s3 => wpAny (model X.prog X.w) X.A (builtinsFor X.env.globals X.env.builtins) (fun bi s4 =>
        ∃ I fp wr n0 Pv St1 pz F, Value.ref s1.heap.objs.size = .ref I ∧ (∀ A' : Around, A'.handled = none → Walks X.prog X.w A' I fp wr n0 Pv St1) ∧ St1 0 s4.heap ∧ (∀ b ∈ fp, b < s4.heap.objs.size) ∧ s4.heap.NoLimit ∧ cStatics ∉ wr ∧
          (∀ href : Heap, (∀ b o, s4.heap.get? b = some o → href.get? b = some o) →
            QuietGen X.prog X.w (genEnv scope (cloFrom X.env.cells scope.names []) s4.heap.objs.size code bi X.env) x [] (.Subscript (.Name x p1) (.Constant (.int ((kk : Nat) : Int)) jk p2) p3) (List.range s4.heap.objs.size) wr Pv pz F href) ∧
          (∀ a h5 tk gs, gs.bare = true → s4.heap.objs.size < a → h5.objs.size = a + 1 → (∀ b o, s4.heap.get? b = some o → h5.get? b = some o) →
            WalksS X.prog X.w X.A.in4 a (a :: s4.heap.objs.size :: List.range s4.heap.objs.size) (s4.heap.objs.size :: wr) (GenOnlyQ s4.gens.size) (passing pz n0 0).length
              (fun j y => ∃ i, (passing pz n0 0)[j]? = some i ∧ F i y) (GenAt X.prog X.w X.A.in4 a s4.gens.size s4.heap.objs.size (List.range s4.heap.objs.size) wr pz n0 F) →
            GenAt X.prog X.w X.A.in4 a s4.gens.size s4.heap.objs.size (List.range s4.heap.objs.size) wr pz n0 F 0 { s4 with gens := s4.gens.push gs, toks := tk, heap := h5 } →
            Q2 (.ref a) { s4 with gens := s4.gens.push gs, toks := tk, heap := h5 })) X.xe s3) X.xe { s1 with heap := s1.heap.push o } := by
  obtain ⟨ps, hP, ht⟩ := tg
  have hPs : s1.heap.get? P = some { cls := .none, data := .fields ps } := I1.hok P _ hP
  have hPlt : P < s1.heap.objs.size := Heap.lt_size hPs
  have sz2 : (s1.heap.push o).objs.size = s1.heap.objs.size + 1 := Heap.size_push ..
  have lim2 : (s1.heap.push o).NoLimit := I1.nolimit.push o
  have lenV : its.length = ys.length := by rw [hK.1, rv.length]
  have rest : ∀ (code : Value) (h3 : Heap) (tk : Nat) (ps2 : Array Value), Heap.ExtBut P (s1.heap.push o) h3 → (s1.heap.push o).objs.size ≤ h3.objs.size → h3.get? P = some { cls := .none, data := .fields ps2 } → (∃ more, ps2 = ps ++ more) → TriplesOk ps2.toList →
      wpAny (model X.prog X.w) X.A (builtinsFor X.env.globals X.env.builtins) (fun bi s4 =>
        ∃ I fp wr n0 Pv St1 pz F, Value.ref s1.heap.objs.size = .ref I ∧ (∀ A' : Around, A'.handled = none → Walks X.prog X.w A' I fp wr n0 Pv St1) ∧ St1 0 s4.heap ∧ (∀ b ∈ fp, b < s4.heap.objs.size) ∧ s4.heap.NoLimit ∧ cStatics ∉ wr ∧
          (∀ href : Heap, (∀ b o, s4.heap.get? b = some o → href.get? b = some o) →
            QuietGen X.prog X.w (genEnv scope (cloFrom X.env.cells scope.names []) s4.heap.objs.size code bi X.env) x [] (.Subscript (.Name x p1) (.Constant (.int ((kk : Nat) : Int)) jk p2) p3) (List.range s4.heap.objs.size) wr Pv pz F href) ∧
          (∀ a h5 tk gs, gs.bare = true → s4.heap.objs.size < a → h5.objs.size = a + 1 → (∀ b o, s4.heap.get? b = some o → h5.get? b = some o) →
            WalksS X.prog X.w X.A.in4 a (a :: s4.heap.objs.size :: List.range s4.heap.objs.size) (s4.heap.objs.size :: wr) (GenOnlyQ s4.gens.size) (passing pz n0 0).length
              (fun j y => ∃ i, (passing pz n0 0)[j]? = some i ∧ F i y) (GenAt X.prog X.w X.A.in4 a s4.gens.size s4.heap.objs.size (List.range s4.heap.objs.size) wr pz n0 F) →
            GenAt X.prog X.w X.A.in4 a s4.gens.size s4.heap.objs.size (List.range s4.heap.objs.size) wr pz n0 F 0 { s4 with gens := s4.gens.push gs, toks := tk, heap := h5 } →
            Q2 (.ref a) { s4 with gens := s4.gens.push gs, toks := tk, heap := h5 })) X.xe { s1 with heap := h3, toks := tk } := by
    intro code h3 tk ps2 hx hsz hP3 hmore ht3
    obtain ⟨more, em⟩ := hmore
    obtain ⟨bm, ob, b1, b2, b3, b4, b5, b6, b7, b8⟩ := TB.bm
    have old3 : ∀ b u, b ≠ P → s1.heap.get? b = some u → h3.get? b = some u := fun b u hb e => hx b u hb (Heap.get?_push_of_some _ e)
    have stP : cStatics ≠ P := fun e => by
      obtain ⟨_, ⟨ob', es, ep, ho, hdt, _⟩, _⟩ := I1.nolimit
      rw [e, hPs] at ho
      cases ho
      cases hdt
    have stlt : cStatics < s1.heap.objs.size := (let ⟨_, hns, _⟩ := I1.nolimit; hns.lt)
    refine wpAny_builtinsFor (m := X.mg) ?_ b1 b2 (old3 _ _ b4 (I1.bk _ _ b5)) b6 b7 b8 ?_
    · rw [I1.ok.glob]
      exact ((I1.mod.glob.keeps I1.bk).push o).extBut hx TB.gP
    have st3 : St0 0 h3 := (W0 X.A hr.hd).frame 0 _ _ st0 fun b hb ob e => by
      refine hx b ob ?_ e
      rcases List.mem_cons.mp hb with z | z
      · rw [z]
        exact Nat.ne_of_gt hPlt
      · rw [List.mem_singleton.mp z]
        exact hyP
    have big : s1.heap.objs.size < h3.objs.size := by rw [sz2] at hsz; exact hsz
    refine ⟨s1.heap.objs.size, [s1.heap.objs.size, yl], [s1.heap.objs.size], its.toArray.size, _, St0, (fun _ => true), (fun i y => ∃ z, ys[i]? = some z ∧ RelV z y), rfl, W0, st3, ?_, lim2.extBut hx stP, ?_, ?_, ?_⟩
    · intro b hb
      show b < h3.objs.size
      rcases List.mem_cons.mp hb with z | z
      · rw [z]; exact big
      · rw [List.mem_singleton.mp z]; exact Nat.lt_trans hyl big
    · exact fun z => Nat.ne_of_lt stlt (List.mem_singleton.mp z)
    · intro href hhref
      refine ⟨fun A' E' i v s2 m2 hA hPv hn hm hk => ?_, fun A' E' i v s2 m2 hA hPv hp hn hm hk => ?_⟩
      · simp only [List.forIn_nil]
        exact wpAny_pure ⟨rfl, keeps_refl _⟩
      · obtain ⟨p, items, y, u, rfl, htp, hsz5, hu, ru, hy, np, ntb⟩ := rows_at I1 rv hK hPv
        obtain ⟨otp, e1, e2⟩ := htp
        have pP : p ≠ P := fun z => ntb ps (by rw [z]; exact hP)
        have plt := Heap.lt_size e1
        have in2 : IsTup s2.heap p items := ⟨otp, hk p (List.mem_range.mpr (Nat.lt_trans plt big)) (fun z => absurd (List.mem_singleton.mp z) (Nat.ne_of_lt plt)) otp (hhref p otp (old3 p otp pP e1)), e2⟩
        exact elt_kth S.kind S.loc hn hm in2 hu hsz5 hd fun t => ⟨⟨y, hy, ru⟩, keeps_tok _ _⟩
    · intro g h5 tk5 gs hgb hag hsz5 hk5 W5 hgat
      have e0 : (passing (fun _ => true) its.toArray.size 0) = List.range ys.length := by rw [GxR.passing_true, List.size_toArray, lenV]
      rw [e0, List.length_range] at W5
      refine hQ g _ ⟨_, _, _, _, _, W5, hgat, ?_, List.mem_cons_self, (fun i s9 h9 => h9.1.typeIs), ?_, fun s' hm => ?_⟩
      · intro b hb
        show b < h5.objs.size
        rw [hsz5]
        have hag : h3.objs.size < g := hag
        rcases List.mem_cons.mp hb with z | z
        · rw [z]; exact Nat.lt_succ_self g
        · rcases List.mem_cons.mp z with z | z
          · rw [z]; exact Nat.lt_succ_of_lt hag
          · exact Nat.lt_succ_of_lt (Nat.lt_trans (List.mem_range.mp z) hag)
      · rintro j v ⟨i, hij, y, hy, ry⟩
        obtain ⟨hj, ej⟩ := List.getElem?_eq_some_iff.mp hij
        rw [List.getElem_range] at ej
        subst ej
        exact ⟨y, hy, ry⟩
      · have off : ∀ b u, s1.heap.get? b = some u → b ∉ h3.objs.size :: [s1.heap.objs.size] := fun b u e hb => by
          have hl := Heap.lt_size e
          rcases List.mem_cons.mp hb with z | z
          · rw [z] at hl
            exact absurd (Nat.lt_trans hl big) (Nat.lt_irrefl _)
          · rw [List.mem_singleton.mp z] at hl
            exact absurd hl (Nat.lt_irrefl _)
        have J := inv_tab (more := more) (h' := s'.heap) (g' := s'.gens) (d' := s'.drawn) (t' := s'.toks) I1 hP (fun b u hb e => hm.heap b u (off b u e) (hk5 b u (old3 b u hb e)))
          (by rw [← em]; exact hm.heap P _ (off P _ hPs) (hk5 P _ hP3)) (AllBare.movedS (I1.bare.push hgb) hm)
        rw [sh_eta s1 s' hm.os] at J
        exact ⟨upd H1 P (.tbl (ps ++ more)), ⟨⟨ps ++ more, upd_same, by rw [← em]; exact ht3⟩, fun b hb => upd_ne hb⟩, J⟩
  refine ⟨lim2, ?_⟩
  have cd : PySem.W.CodeHd (s1.heap.push o) c P := TB.code.keeps fun b u e => Heap.get?_push_of_some _ (I1.bk b u e)
  have hP2 : (s1.heap.push o).get? P = some { cls := .none, data := .fields ps } := Heap.get?_push_of_some _ hPs
  cases hf : codeAmong gpos ps.toList with
  | some cv =>
    refine wpAny_genexprCode_hit hcode (cd.code hP2 ht) hf ?_
    exact rest cv (s1.heap.push o) s1.toks ps (Heap.ExtBut.refl _ _) (Nat.le_refl _) hP2 ⟨#[], by simp⟩ ht
  | none =>
    refine wpAny_genexprCodeX hcode (cd.code hP2 ht) (cd.tab hP2) hf fun c2 h2 tk hx hge hlt hco2 _ htab2 _ => ?_
    obtain ⟨o1, vs1, f1, tf, fl, tg1, inF, tx, tt, op, _, _, _, _, _, _, _, _, _, htr, _⟩ := hco2
    exact rest _ h2 tk _ hx (Nat.le_trans hge (Nat.le_of_lt hlt)) htab2.2 ⟨_, rfl⟩ htr
/-- tuple(x[k] for x in te) -/
def tTupK (K : PySem.W.Frag) (P : Addr) (kk : Nat) (te : TE) : TE := fun σ H Q => te σ H fun v H1 => ∃ (yl : Addr) (vs ys : List V), v = .ref yl ∧ (SqL K H1 yl vs ∨ SqT K H1 yl vs) ∧ yl ≠ P ∧ Kth H1 kk vs ys ∧ TabG H1 P ∧ ∀ H2 q, Tabbed P H1 H2 → H2 q = none → Q (.ref q) (upd H2 q (.tup ys))
theorem gen_items {c P : Addr} {x : Str} {px gpos p1 p2 p3 : Pos} {jk : Nat} {kk : Nat} {iter : Expr} {scope : Scope} {te : TE} {k : Nat} {Q2 : Value → Shared → Prop} {R : List V → Hp → Prop}
    (hr : Room k X.A) (TB : TabB X.base X.mg c P) (hcode : X.env.code = .ref c) (S : GenS X.env scope x) (hd : (x == ("__debug__" : Str)) = false) (hi : PE X iter te) (hs : ∀ v, genFold iter X.env v = pure v) (I : Inv X pins σ H s)
    (h : te σ H fun v H1 => ∃ (yl : Addr) (vs ys : List V), v = .ref yl ∧ (SqL X.K H1 yl vs ∨ SqT X.K H1 yl vs) ∧ yl ≠ P ∧ Kth H1 kk vs ys ∧ TabG H1 P ∧ R ys H1)
    (hQ : ∀ ys H1 g s5, R ys H1 → ys.length ≤ sizeLine → Gives X pins σ H1 P ys g s5 → Q2 (.ref g) s5) :
    wpAny (model X.prog X.w) X.A (eval (.GeneratorExp (.Subscript (.Name x p1) (.Constant (.int ((kk : Nat) : Int)) jk p2) p3) [⟨.Name x px, iter, [], 0⟩] scope gpos) X.env) Q2 X.xe s := by
  refine wpAny_GeneratorExp_walksQ hr.hd S.co (closure_ok S.free) S.cell S.dot S.loc S.kind (by have := hr.dp; omega) ?_ hs
  refine thn (hi.run pins s σ H _ I h) fun xv s1 ⟨v, H1, I1, r1, q1⟩ => ?_
  obtain ⟨yl, vs, ys, rfl, hsq, hyP, hK, tg, hR⟩ := q1
  obtain rfl : xv = Value.ref yl := r1
  rcases hsq with hl | htp
  · obtain ⟨its, rv, pl, hz⟩ := I1.list hl
    have hIL := pl.isList
    have hyl : yl < s1.heap.objs.size := by
      obtain ⟨_, e, _⟩ := _root_.id hIL
      exact Heap.lt_size e
    have sz : ys.length ≤ sizeLine := by
      rw [hK.1]
      exact hz
    refine wpAny_pyIter_list hIL (gen_core hr TB hcode S hd I1 rv hK tg hyl hyP (fun A' hA => Walks.list hA _ _ (Nat.ne_of_lt hyl) _) ⟨⟨_, Heap.get?_push_size _ rfl, rfl, rfl⟩, hIL.push _⟩ fun g s5 G => hQ ys H1 g s5 hR sz G)
  · obtain ⟨its, rv, pl, hz⟩ := I1.tuple htp
    have hyl : yl < s1.heap.objs.size := pl.lt
    have sz : ys.length ≤ sizeLine := by
      rw [hK.1]
      exact hz
    refine wpAny_pyIter_tuple pl (gen_core hr TB hcode S hd I1 rv hK tg hyl hyP (fun A' hA => Walks.tuple hA _ _ (Nat.ne_of_lt hyl) _) ⟨⟨_, Heap.get?_push_size _ rfl, rfl, rfl⟩, pl.push _⟩ fun g s5 G => hQ ys H1 g s5 hR sz G)
theorem pe_tupK {c P : Addr} {x : Str} {px gpos p1 p2 p3 p pos : Pos} {jk : Nat} {kk : Nat} {iter : Expr} {scope : Scope} {te : TE} {k : Nat} (hr : Room k X.A) (TB : TabB X.base X.mg c P) (hcode : X.env.code = .ref c) (S : GenS X.env scope x)
    (hg : Gl X "tuple") (hm : X.mg "tuple" = none) (hi : PE X iter te) (hd : (x == ("__debug__" : Str)) = false := by decide) (hs : ∀ v, genFold iter X.env v = pure v := by intro _; rfl)
    (he : starEach [.GeneratorExp (.Subscript (.Name x p1) (.Constant (.int ((kk : Nat) : Int)) jk p2) p3) [⟨.Name x px, iter, [], 0⟩] scope gpos] X.env = (false, eval (.GeneratorExp (.Subscript (.Name x p1) (.Constant (.int ((kk : Nat) : Int)) jk p2) p3) [⟨.Name x px, iter, [], 0⟩] scope gpos) X.env) :: starEach [] X.env := by rfl)
    (hpl : (backTo pos (starEach [] X.env)).any (·.1) = false := by rfl) :
    PE X (.Call (.Name "tuple" p) [.GeneratorExp (.Subscript (.Name x p1) (.Constant (.int ((kk : Nat) : Int)) jk p2) p3) [⟨.Name x px, iter, [], 0⟩] scope gpos] [] pos) (tTupK X.K P kk te) := by
  refine ⟨fun pins s σ H Q I h => ?_⟩
  refine wpAny_Call_Name_kw (ld_blt I hg hm (show bootBuiltins "tuple" = some (.type "tuple") by decide +kernel) ?_ (by decide) (by decide))
  refine PyProof.Rows.callWith_type1 ?_ he hpl
  show wpAny _ _ (spliced ((false, eval (.GeneratorExp _ _ _ _) X.env) :: backTo pos (starEach [] X.env))) _ _ s
  refine Calls.spliced_cons (gen_items (R := fun ys H1 => ∀ H2 q, Tabbed P H1 H2 → H2 q = none → Q (.ref q) (upd H2 q (.tup ys))) hr TB hcode S hd hi hs I h fun ys H1 g s5 h sz G => Calls.spliced_nil ?_)
  obtain ⟨fp, wr, Gt, F, St, W, hst, hfp, hgf, hT, hF, hinv⟩ := G
  refine call_tuple_gen W.in4_3 hT hst hfp hgf (fun s' acc hm hio => ?_) sz
  obtain ⟨H2, tb, J⟩ := hinv s' hm
  have hv : Vals ys acc.toList := vals_of (by rw [Array.length_toList]; exact hio.1) fun j v e => hF j v (hio.2 j v (by rw [← Array.getElem?_toList]; exact e))
  refine ⟨.ref s'.heap.objs.size, _, J.laid (t' := s'.toks) (a := s'.heap.objs.size) (o := .tup ys) (fun b ob e => Heap.get?_push_of_some _ e) (Nat.le_refl _) ⟨sz, acc.toList, hv, _, Heap.get?_push_size _ rfl, rfl, 0, by simp⟩, rfl, h H2 _ tb (J.hok.fresh (Nat.le_refl _))⟩
end
end OS

/-! xs[::-1] of a tuple. -/
namespace OS
open PySem PySem.Spec PyProof.Rows L2 HT
section
variable {prog : Program} {w : World} {A : Around} {E : Value → Shared → Prop} {s : Shared}
theorem applied_rev {sl : Addr} {n : Nat} {u : Tok} {Q : Int × Int × Nat → Shared → Prop} (hs : s.heap.IsSliceOf sl .none .none (.int (-1) u)) (h : Q ((n : Int) - 1, -1, n) s) :
    wpAny (model prog w) A (Builtin.Slice.sliceApplied (.ref sl) (pure (n : Int))) Q E s := by
  obtain ⟨os, hos, hcs, hds⟩ := id hs
  unfold Builtin.Slice.sliceApplied Builtin.Slice.sliceFields
  refine wpAny_bind (wpAny_bind (wpAny_field hos hds (x := .none) rfl (wpAny_bind (wpAny_field hos hds (x := .none) rfl (wpAny_bind (wpAny_field hos hds (x := .int (-1) u) rfl (wpAny_pure ?_)))))))
  refine wpAny_bind (slicePart_int ?_)
  show wpAny _ _ (if ((-1 : Int) == 0) = true then _ else _) _ _ s
  rw [if_neg (by decide)]
  refine wpAny_bind (slicePart_none (wpAny_bind (slicePart_none (wpAny_bind (wpAny_pure ?_)))))
  show wpAny _ _ (match Builtin.Slice.sliceAdjust none none (-1) (n : Int) with | (lo, hi) => pure (lo, (-1 : Int), Builtin.Slice.slicePlaces lo hi (-1))) _ _ s
  have e1 : Builtin.Slice.sliceAdjust none none (-1) (n : Int) = ((n : Int) - 1, -1) := by
    unfold Builtin.Slice.sliceAdjust
    simp
  rw [e1]
  show wpAny _ _ (pure ((n : Int) - 1, (-1 : Int), Builtin.Slice.slicePlaces ((n : Int) - 1) (-1) (-1))) _ _ s
  have e2 : Builtin.Slice.slicePlaces ((n : Int) - 1) (-1) (-1) = n := by
    unfold Builtin.Slice.slicePlaces
    rw [if_neg (by decide)]
    split
    · rw [show -(-1 : Int) = 1 by decide, Int.ediv_one]
      omega
    · omega
  rw [e2]
  exact wpAny_pure h
theorem pick_rev (xs : Array Value) : ((List.range xs.size).filterMap fun (m : Nat) => xs[((xs.size : Int) - 1 + (m : Int) * (-1)).toNat]?).toArray = xs.toList.reverse.toArray := by
  congr 1
  refine List.ext_getElem? fun i => ?_
  have key : ∀ l : List Nat, (∀ m ∈ l, m < xs.size) → (l.filterMap fun (m : Nat) => xs[((xs.size : Int) - 1 + (m : Int) * (-1)).toNat]?) = l.map fun m => xs.getD (xs.size - 1 - m) .none := by
    intro l
    induction l with
    | nil => exact fun _ => rfl
    | cons m r ih =>
      intro h
      have hm := h m List.mem_cons_self
      have e1 : ((xs.size : Int) - 1 + (m : Int) * (-1)).toNat = xs.size - 1 - m := by omega
      have e2 : xs[xs.size - 1 - m]? = some (xs.getD (xs.size - 1 - m) .none) := by
        rw [Array.getD_eq_getD_getElem?, Array.getElem?_eq_getElem (by omega)]
        rfl
      rw [List.filterMap_cons, e1, e2, List.map_cons, ← ih fun x hx => h x (List.mem_cons_of_mem _ hx)]
  have e := key (List.range xs.size) fun m hm => List.mem_range.mp hm
  rw [e, List.getElem?_map]
  by_cases hi : i < xs.size
  · rw [List.getElem?_range hi, List.getElem?_reverse (by rw [Array.length_toList]; exact hi), Array.length_toList, Array.getElem?_toList]
    show some (xs.getD (xs.size - 1 - i) .none) = _
    rw [Array.getD_eq_getD_getElem?, Array.getElem?_eq_getElem (by omega)]
    rfl
  · rw [List.getElem?_eq_none (by rw [List.length_range]; omega), List.getElem?_eq_none (by rw [List.length_reverse, Array.length_toList]; omega)]
    rfl
theorem getItem_tuple_rev {t sl : Addr} {items : Array Value} {u : Tok} {Q : Value → Shared → Prop} (ht : IsTup s.heap t items) (hs : s.heap.IsSliceOf sl .none .none (.int (-1) u))
    (h : Q (.ref s.heap.objs.size) { s with heap := s.heap.push { cls := .type "tuple", data := .seq items.toList.reverse.toArray } }) (hsz : items.size ≤ sizeLine) : wpAny (model prog w) A (getItem (.ref t) (.ref sl)) Q E s := by
  have htake : sizeOk (.seq items.toList.reverse.toArray) := by
    show items.toList.reverse.toArray.size ≤ sizeLine
    rw [List.size_toArray, List.length_reverse, Array.length_toList]
    exact hsz
  obtain ⟨os, hos, hcs, hds⟩ := id hs
  have hTs : s.TypeIs (.ref sl) "slice" := ⟨os, hos, hcs⟩
  unfold getItem
  try with_reducible refine wpAny_holding ?_
  first | refine wpAny_bind (wpAny_pure ?_) | skip
  refine wpAny_bind (wpAny_sequenceKey ht.typeIs (by decide) ?_)
  refine wpAny_bind (wpAny_callSpecial?_slot (name := Str.ofString "__getitem__") ht.typeIs PyProof.Rows.slot_tuple_getitem
    (wpAny_call_entry PyProof.Rows.slot_tuple_getitem ht.typeIs PyProof.Rows.entry_tuple_getitem ?_ (PyProof.Rows.args_tuple_getitem _ _)))
  show wpAny _ _ (Builtin.Tuple.tupleItemsOf (.ref t) >>= _) _ _ s
  refine wpAny_bind (tupleItemsOf_ ht ?_)
  refine wpAny_bind (wpAny_typeOf hTs ?_)
  rw [if_pos (by decide)]
  refine wpAny_bind (applied_rev hs ?_)
  have hno : ¬ ((((items.size : Int) - 1) == 0 && (-1 : Int) == 1 && items.size == items.size) = true) := by
    intro q
    rw [Bool.and_eq_true, Bool.and_eq_true] at q
    exact absurd q.1.2 (by decide)
  show wpAny _ _ (if (((items.size : Int) - 1) == 0 && (-1 : Int) == 1 && items.size == items.size) = true then _ else _) _ _ s
  rw [if_neg hno, pick_rev]
  first
    | exact wpAny_bind (m := Builtin.Tuple.tupleExact _) (wpAny_newObj_type (wpAny_pure ⟨_, rfl, wpAny_pure h⟩) htake)
    | exact wpAny_bind (m := Builtin.Tuple.tupleExact _) (wpAny_newObj_type (wpAny_bind (wpAny_pure (wpAny_pure ⟨_, rfl, wpAny_pure h⟩))) htake)
    | exact wpAny_bind (wpAny_bind (m := Builtin.Tuple.tupleExact _) (wpAny_newObj_type (wpAny_pure (wpAny_pure ⟨_, rfl, wpAny_pure h⟩)) htake))
    | exact wpAny_bind (wpAny_bind (m := Builtin.Tuple.tupleExact _) (wpAny_newObj_type (wpAny_pure ⟨_, rfl, wpAny_pure h⟩) htake))
end
section
variable {X : Cx}
def tRevT (K : PySem.W.Frag) (te : TE) : TE := fun σ H Q => te σ H fun x H1 => ∃ a xs, x = .ref a ∧ SqT K H1 a xs ∧ ∀ p, H1 p = none → Q (.ref p) (upd H1 p (.tup xs.reverse))
theorem pe_revT {e : Expr} {te : TE} {k : Nat} {p1 p2 p3 pos : Pos} (he : PE X e te) : PE X (.Subscript e (.Slice none none (some (.UnaryOp .USub (.Constant (.int 1) k p1) p2)) p3) pos) (tRevT X.K te) := by
  refine ⟨fun pins s σ H Q I h => ?_⟩
  refine Subscript_ (thn (he.run pins s σ H _ I h) fun v s1 ⟨x, H1, I1, r1, q1⟩ => ?_)
  obtain ⟨a, xs, ex, hx, q⟩ := q1
  subst ex
  cases r1
  have hst : PO X (some (.UnaryOp .USub (.Constant (.int 1) k p1) p2)) (tPart (tUn (rU fun i => .int (-i)) (tC (.int 1)))) := po_some (pe_un un_neg pe_int)
  refine wpAny_Slice (thn (po_none.run pins s1 σ H1 (fun o H2 => o = none ∧ H2 = H1) I1 ⟨rfl, rfl⟩) fun vl s2 ⟨l, H2, I2, pl, el, e2⟩ => ?_)
  subst el e2
  refine thn (po_none.run pins s2 σ H2 (fun o H3 => o = none ∧ H3 = H2) I2 ⟨rfl, rfl⟩) fun vu s3 ⟨u, H3, I3, pu, eu, e3⟩ => ?_
  subst eu e3
  refine thn (hst.run pins s3 σ H3 (fun o H4 => o = some (-1) ∧ H4 = H3) I3 ⟨1, rfl, -1, rfl, rfl, rfl⟩) fun vs s4 ⟨o, H4, I4, ps, eo, e4⟩ => ?_
  subst eo e4
  have I5 : Inv X pins σ H4 { s4 with heap := s4.heap.push { cls := .type "slice", data := .fields #[vl, vu, vs] } } := I4.kept (t' := s4.toks) fun b ob q => Heap.get?_push_of_some _ q
  obtain ⟨its, r, ht, hz⟩ := I5.tuple hx
  have hlen := r.length
  show wpAny (model X.prog X.w) X.A (subscriptTail e (.Slice none none (some (.UnaryOp .USub (.Constant (.int 1) k p1) p2)) p3) (.ref a) (.ref s4.heap.objs.size)) (EP X pins σ Q) X.xe { s4 with heap := s4.heap.push { cls := .type "slice", data := .fields #[vl, vu, vs] } }
  cases pl
  cases pu
  cases ps
  refine tail_any (ops := [.ref a, .ref s4.heap.objs.size]) ht.typeIs (PyProof.Rows.slot_tuple_getitem.lookup) ?_ (by with_unfolding_all rfl)
  refine getItem_tuple_rev ht (Heap.IsSliceOf.new _ _ _ _) ?_ (by rw [List.size_toArray]; omega)
  refine ⟨.ref _, _, I5.laid (t' := s4.toks) (o := .tup xs.reverse) (fun b ob q => Heap.get?_push_of_some _ q) (Nat.le_refl _) ?_, rfl, q _ (I5.hok.fresh (Nat.le_refl _))⟩
  exact ⟨by rw [List.length_reverse]; exact hz, _, r.reverse, _, Heap.get?_push_size _ rfl, rfl, 0, by simp⟩
end
end OS

/-! text.find(sign, i) -/
namespace OS
open PySem PySem.Spec L2 PySem.StrLaws Builtin Builtin.Str
theorem occ_full (s sub : Str) (hi : Nat) : ∀ (l : List Nat) (st : Array Nat × Nat), st.fst.size = 1 → (forIn l st (occBody s sub hi 1)).run.fst = st.fst
  | [], st, h => rfl
  | a :: l, st, h => by
    rw [List.forIn_cons]
    unfold occBody
    rw [if_neg (fun q => by have := q.1.1.1; omega)]
    exact occ_full s sub hi l (st.fst, st.snd) h
theorem occ_first (s sub : Str) (hi : Nat) : ∀ (l : List Nat) (free : Nat), (∀ i ∈ l, free ≤ i) →
    (forIn l ((#[] : Array Nat), free) (occBody s sub hi 1)).run.fst.toList = (l.find? fun i => decide (i + sub.length ≤ hi ∧ subAt s sub i = true)).toList
  | [], free, _ => rfl
  | a :: l, free, hf => by
    rw [List.forIn_cons]
    unfold occBody
    have ha : free ≤ a := hf a (List.mem_cons_self ..)
    by_cases hc : a + sub.length ≤ hi ∧ subAt s sub a = true
    · have c1 : (((#[] : Array Nat), free).fst.size < 1 ∧ ((#[] : Array Nat), free).snd ≤ a) ∧ a + sub.length ≤ hi := ⟨⟨by simp, ha⟩, hc.1⟩
      rw [if_pos ⟨c1, hc.2⟩, List.find?_cons, decide_eq_true hc]
      have e := occ_full s sub hi l (((#[] : Array Nat), free).fst.push a, a + sub.length) (by simp)
      have e2 := congrArg Array.toList e
      exact e2
    · have c2 : ¬ (((((#[] : Array Nat), free).fst.size < 1 ∧ ((#[] : Array Nat), free).snd ≤ a) ∧ a + sub.length ≤ hi) ∧ subAt s sub a = true) := fun h => hc ⟨h.1.2, h.2⟩
      rw [if_neg c2, List.find?_cons, decide_eq_false hc]
      exact occ_first s sub hi l free (fun i hi' => hf i (List.mem_cons_of_mem _ hi'))
theorem find_range (cs : List Nat) (c : Nat) : ∀ (n lo : Nat), lo + n = cs.length + 1 →
    (List.range' lo n).find? (fun i => decide (cs[i]? = some c)) = if run (fun x => x != c) cs lo < cs.length then some (run (fun x => x != c) cs lo) else none
  | 0, lo, h => by
    rw [run_end (by omega), if_neg (by omega)]
    rfl
  | n + 1, lo, h => by
    rw [List.range'_succ, List.find?_cons]
    by_cases e : cs[lo]? = some c
    · rw [decide_eq_true e, run_stop e (by simp), if_pos (List.getElem?_eq_some_iff.mp e).1]
    · rw [decide_eq_false e]
      show (List.range' (lo + 1) n).find? _ = _
      by_cases hl : lo < cs.length
      · have g := List.getElem?_eq_getElem hl
        rw [find_range cs c n (lo + 1) (by omega), ← run_go g (by
          rw [bne_iff_ne]
          intro z
          rw [z] at g
          exact e g)]
      · rw [find_range cs c n (lo + 1) (by omega), run_end (i := lo) (by omega), run_end (i := lo + 1) (by omega), if_neg (by omega), if_neg (by omega)]
theorem find3_one (z : Str) (c i : Nat) (hi : i ≤ z.length) : Txt.find3 z ⟨#[c]⟩ (i : Int) = if run (fun x => x != c) z.cps.toList i < z.length then ((run (fun x => x != c) z.cps.toList i : Nat) : Int) else -1 := by
  have hf : fromIndex z.length (i : Int) = i := by
    unfold fromIndex
    rw [if_neg (by omega)]
    omega
  have hz := len_cps z
  unfold Txt.find3
  rw [hf, occ_eq, occ_first z ⟨#[c]⟩ z.length _ i (fun j hj => (List.mem_range'_1.mp hj).1)]
  have e1 : (fun j => decide (j + (⟨#[c]⟩ : Str).length ≤ z.length ∧ subAt z ⟨#[c]⟩ j = true)) = (fun j => decide (z.cps.toList[j]? = some c)) := by
    funext j
    exact decide_eq_decide.mpr (subAt_one z c j)
  rw [e1, find_range _ _ _ _ (by omega)]
  rw [← hz]
  by_cases h : run (fun x => x != c) z.cps.toList i < z.length
  · rw [if_pos h, if_pos h]
    rfl
  · rw [if_neg h, if_neg h]
    rfl
end OS

/-! Scores as trees, and a reader of tokens in plain Lean: with fuel, failing at a token. -/
namespace OS
open PySem
inductive Val where
  | num (n : Int) | name (x : Str) | op (s : Str) (a b : Val)
def Val.dt : Val → Dt
  | .num n => .tup [.str "number", .int n]
  | .name x => .tup [.str "name", .str x]
  | .op s a b => .tup [.str s, a.dt, b.dt]
inductive Stm where
  | msg (a b l : Str) (v : Val) (x : Str) | set (e x : Str) (v : Val) | ask (e x : Str) | call (p : Str) (es : List Str) | ite (e : Str) (v : Val) (yes no : List Stm) | whl (e : Str) (v : Val) (b : List Stm)
def namesDt (es : List Str) : Dt := .tup (es.map .str)
mutual
def Stm.dt : Stm → Dt
  | .msg a b l v x => .tup [.str "message", .str a, .str b, .str l, v.dt, .str x]
  | .set e x v => .tup [.str "set", .str e, .str x, v.dt]
  | .ask e x => .tup [.str "ask", .str e, .str x]
  | .call p es => .tup [.str "call", .str p, namesDt es]
  | .ite e v yes no => .tup [.str "if", .str e, v.dt, .tup (blkDts yes), .tup (blkDts no)]
  | .whl e v b => .tup [.str "while", .str e, v.dt, .tup (blkDts b)]
def blkDts : List Stm → List Dt
  | [] => []
  | s :: r => s.dt :: blkDts r
end
def blkDt (b : List Stm) : Dt := .tup (blkDts b)
theorem blkDts_snoc (b : List Stm) (s : Stm) : blkDts (b ++ [s]) = blkDts b ++ [s.dt] := by
  induction b with
  | nil => simp [blkDts]
  | cons x r ih => simp [blkDts, ih]
theorem blkDts_len (b : List Stm) : (blkDts b).length = b.length := by
  induction b with
  | nil => simp [blkDts]
  | cons x r ih => simp [blkDts, ih]
structure Prt where
  name : Str
  params : List Str
  body : List Stm
def Prt.dt (p : Prt) : Dt := .tup [.str p.name, namesDt p.params, blkDt p.body]
structure Tree where
  ends : List Str
  parts : List Prt
  body : List Stm
def Tree.dt (t : Tree) : Dt := .tup [namesDt t.ends, .tup (t.parts.map Prt.dt), blkDt t.body]

/-! ### the reader -/
inductive Res (α : Type) where
  | ok (v : α) (i : Nat) | bad (i : Nat) | out
abbrev Tok2 := Str × Str
/-- the word, the sort of the next token; nothing behind the last -/
def nw (ts : List Tok2) (i : Nat) : Str := match ts[i]? with | some t => t.2 | none => ""
def ns (ts : List Tok2) (i : Nat) : Str := match ts[i]? with | some t => t.1 | none => ""
abbrev Rd (α : Type) := List Tok2 → Nat → Res α
def rpure {α : Type} (v : α) : Rd α := fun _ i => .ok v i
def rbind {α β : Type} (m : Rd α) (f : α → Rd β) : Rd β := fun ts i => match m ts i with | .ok v j => f v ts j | .bad j => .bad j | .out => .out
def rfail {α : Type} : Rd α := fun _ i => .bad i
def rout {α : Type} : Rd α := fun _ _ => .out
def rtake (w : Str) : Rd Unit := fun ts i => if nw ts i = w then .ok () (i + 1) else .bad i
def rsort (s : Str) : Rd Str := fun ts i => if ns ts i = s then .ok (nw ts i) (i + 1) else .bad i
def rpeek : Rd Str := fun ts i => .ok (nw ts i) i
def rpeekS : Rd Str := fun ts i => .ok (ns ts i) i
def rname : Rd Str := rsort "name"
def rnamesL : Nat → List Str → Rd (List Str)
  | 0, _ => rout
  | f + 1, acc => rbind rpeek fun w => if w = "," then rbind (rtake ",") fun _ => rbind rname fun n => rnamesL f (acc ++ [n]) else rpure acc
def rnames (f : Nat) : Rd (List Str) := rbind rname fun n => rnamesL f [n]
def rnamesB (f : Nat) : Rd (List Str) := rbind (rtake "(") fun _ => rbind (rnames f) fun l => rbind (rtake ")") fun _ => rpure l
def numVal (x : Str) : Int := x.cps.toList.foldl (fun (n : Int) (c : Nat) => (n * 10 + ((c : Int) - 48)).fmod 4294967296) 0
mutual
def rvalue : Nat → Nat → Rd Val
  | 0, _ => rout
  | f + 1, b => rbind (rsum f b) fun l => rbind rpeek fun w => if w = "<" ∨ w = "==" then rbind (rsort "sign") fun s => rbind (rsum f b) fun r => rpure (.op s l r) else rpure l
def rsum : Nat → Nat → Rd Val
  | 0, _ => rout
  | f + 1, b => rbind (rprod f b) fun l => rsumL f b l
def rsumL : Nat → Nat → Val → Rd Val
  | 0, _, _ => rout
  | f + 1, b, l => rbind rpeek fun w => if w = "+" ∨ w = "-" then rbind (rsort "sign") fun s => rbind (rprod f b) fun r => rsumL f b (.op s l r) else rpure l
def rprod : Nat → Nat → Rd Val
  | 0, _ => rout
  | f + 1, b => rbind (rsimple f b) fun l => rprodL f b l
def rprodL : Nat → Nat → Val → Rd Val
  | 0, _, _ => rout
  | f + 1, b, l => rbind rpeek fun w => if w = "*" then rbind (rtake "*") fun _ => rbind (rsimple f b) fun r => rprodL f b (.op "*" l r) else rpure l
def rsimple : Nat → Nat → Rd Val
  | 0, _ => rout
  | f + 1, b => rbind rpeekS fun s => if s = "number" then rbind (rsort "number") fun d => rpure (.num (numVal d)) else if s = "name" then rbind rname fun n => rpure (.name n)
      else if 12 ≤ b then rfail else rbind (rtake "(") fun _ => rbind (rvalue f (b + 1)) fun v => rbind (rtake ")") fun _ => rpure v
end
def rmsg (f : Nat) (a : Str) : Rd Stm := rbind (rtake "->") fun _ => rbind rname fun b => rbind (rtake ":") fun _ => rbind rname fun l => rbind (rtake "(") fun _ => rbind (rvalue f 0) fun v =>
  rbind (rtake ")") fun _ => rbind (rtake "as") fun _ => rbind rname fun x => rpure (.msg a b l v x)
def rdec (f : Nat) (w : Str) : Rd (Str × Val) := rbind (rtake w) fun _ => rbind rname fun e => rbind (rtake ":") fun _ => rbind (rvalue f 0) fun v => rpure (e, v)
mutual
def rblock : Nat → Nat → Rd (List Stm)
  | 0, _ => rout
  | f + 1, b => if 12 ≤ b then rfail else rbind (rtake "{") fun _ => rblockL f b []
def rblockL : Nat → Nat → List Stm → Rd (List Stm)
  | 0, _, _ => rout
  | f + 1, b, acc => rbind rpeek fun w => if w = "}" then rbind (rtake "}") fun _ => rpure acc else rbind (rstmt f (b + 1)) fun s => rblockL f b (acc ++ [s])
def rstmt : Nat → Nat → Rd Stm
  | 0, _ => rout
  | f + 1, b => rbind rpeek fun w => if w = "if" then rif f b else if w = "while" then rwhile f b
      else if w = "call" then rbind (rtake "call") fun _ => rbind rname fun n => rbind (rnamesB f) fun es => rpure (.call n es)
      else rbind rname fun e => rbind rpeek fun w2 => if w2 = "->" then rmsg f e
        else if w2 = "sets" then rbind (rtake "sets") fun _ => rbind rname fun x => rbind (rtake "=") fun _ => rbind (rvalue f 0) fun v => rpure (.set e x v)
        else rbind (rtake "asks") fun _ => rbind rname fun x => rpure (.ask e x)
def rif : Nat → Nat → Rd Stm
  | 0, _ => rout
  | f + 1, b => rbind (rdec f "if") fun ev => rbind (rblock f b) fun yes => rbind (rtake "else") fun _ => rbind (rblock f b) fun no => rpure (.ite ev.1 ev.2 yes no)
def rwhile : Nat → Nat → Rd Stm
  | 0, _ => rout
  | f + 1, b => rbind (rdec f "while") fun ev => rbind (rblock f b) fun bl => rpure (.whl ev.1 ev.2 bl)
end
def rpart (f : Nat) : Rd Prt := rbind (rtake "part") fun _ => rbind rname fun n => rbind (rnamesB f) fun ps => rbind (rblock f 0) fun b => rpure ⟨n, ps, b⟩
def rparts : Nat → List Prt → Rd (List Prt)
  | 0, _ => rout
  | f + 1, acc => rbind rpeek fun w => if w = "part" then rbind (rpart f) fun p => rparts f (acc ++ [p]) else rpure acc
def rlast {α : Type} (v : α) : Rd α := fun ts i => if i < ts.length then .bad i else .ok v i
def rscore (f : Nat) : Rd Tree := rbind (rtake "ends") fun _ => rbind (rnames f) fun es => rbind (rparts f []) fun ps => rbind (rtake "play") fun _ => rbind (rblock f 0) fun b => rlast ⟨es, ps, b⟩

/-- with enough fuel -/
def Evn {α : Type} (m : Nat → Rd α) (ts : List Tok2) (i : Nat) (r : Res α) : Prop := ∃ f0, ∀ f, f0 ≤ f → m f ts i = r
theorem Evn.det {α : Type} {m : Nat → Rd α} {ts : List Tok2} {i : Nat} {r r' : Res α} (h : Evn m ts i r) (h' : Evn m ts i r') : r = r' := by
  obtain ⟨a, h⟩ := h
  obtain ⟨b, h'⟩ := h'
  exact (h (max a b) (Nat.le_max_left _ _)).symm.trans (h' (max a b) (Nat.le_max_right _ _))
theorem Evn.const {α : Type} {m : Rd α} {ts : List Tok2} {i : Nat} {r : Res α} (h : m ts i = r) : Evn (fun _ => m) ts i r := ⟨0, fun _ _ => h⟩
theorem Evn.bind {α β : Type} {m : Nat → Rd α} {k : Nat → α → Rd β} {ts : List Tok2} {i j : Nat} {v : α} {r : Res β} (h : Evn m ts i (.ok v j)) (hk : Evn (fun f => k f v) ts j r) : Evn (fun f => rbind (m f) (k f)) ts i r := by
  obtain ⟨a, h⟩ := h
  obtain ⟨b, hk⟩ := hk
  refine ⟨max a b, fun f hf => ?_⟩
  show (match m f ts i with | .ok v j => k f v ts j | .bad j => .bad j | .out => .out) = r
  rw [h f (by omega)]
  exact hk f (by omega)
theorem Evn.bad {α β : Type} {m : Nat → Rd α} {k : Nat → α → Rd β} {ts : List Tok2} {i j : Nat} (h : Evn m ts i (.bad j)) : Evn (fun f => rbind (m f) (k f)) ts i (.bad j) := by
  obtain ⟨a, h⟩ := h
  refine ⟨a, fun f hf => ?_⟩
  show (match m f ts i with | .ok v j => k f v ts j | .bad j => .bad j | .out => .out) = _
  rw [h f hf]
theorem Evn.step {α : Type} {m k : Nat → Rd α} {ts : List Tok2} {i : Nat} {r : Res α} (h : Evn k ts i r) (e : ∀ f, m (f + 1) ts i = k f ts i) : Evn m ts i r := by
  obtain ⟨a, h⟩ := h
  refine ⟨a + 1, fun f hf => ?_⟩
  cases f with
  | zero => omega
  | succ f => rw [e]; exact h f (by omega)
theorem Evn.eq {α : Type} {m k : Nat → Rd α} {ts : List Tok2} {i : Nat} {r : Res α} (h : Evn k ts i r) (e : ∀ f, m f ts i = k f ts i) : Evn m ts i r := by
  obtain ⟨a, h⟩ := h
  exact ⟨a, fun f hf => (e f).trans (h f hf)⟩
theorem Evn.take {ts : List Tok2} {i : Nat} {w : Str} (h : nw ts i = w) : Evn (fun _ => rtake w) ts i (.ok () (i + 1)) := .const (by unfold rtake; rw [if_pos h])
theorem Evn.takeN {ts : List Tok2} {i : Nat} {w : Str} (h : ¬ nw ts i = w) : Evn (fun _ => rtake w) ts i (.bad i) := .const (by unfold rtake; rw [if_neg h])
theorem Evn.sort {ts : List Tok2} {i : Nat} {w : Str} (h : ns ts i = w) : Evn (fun _ => rsort w) ts i (.ok (nw ts i) (i + 1)) := .const (by unfold rsort; rw [if_pos h])
theorem Evn.sortN {ts : List Tok2} {i : Nat} {w : Str} (h : ¬ ns ts i = w) : Evn (fun _ => rsort w) ts i (.bad i) := .const (by unfold rsort; rw [if_neg h])
theorem Evn.pure {α : Type} {ts : List Tok2} {i : Nat} (v : α) : Evn (fun _ => rpure v) ts i (.ok v i) := .const rfl
theorem Evn.peek {ts : List Tok2} {i : Nat} {α : Type} {k : Nat → Str → Rd α} {r : Res α} (h : Evn (fun f => k f (nw ts i)) ts i r) : Evn (fun f => rbind rpeek (k f)) ts i r := h
theorem Evn.peekS {ts : List Tok2} {i : Nat} {α : Type} {k : Nat → Str → Rd α} {r : Res α} (h : Evn (fun f => k f (ns ts i)) ts i r) : Evn (fun f => rbind rpeekS (k f)) ts i r := h
theorem Evn.ifT {α : Type} {c : Prop} [Decidable c] {m k : Nat → Rd α} {ts : List Tok2} {i : Nat} {r : Res α} (hc : c) (h : Evn m ts i r) : Evn (fun f => if c then m f else k f) ts i r := by
  obtain ⟨a, h⟩ := h
  exact ⟨a, fun f hf => (congrFun (congrFun (if_pos hc) ts) i).trans (h f hf)⟩
theorem Evn.ifF {α : Type} {c : Prop} [Decidable c] {m k : Nat → Rd α} {ts : List Tok2} {i : Nat} {r : Res α} (hc : ¬ c) (h : Evn k ts i r) : Evn (fun f => if c then m f else k f) ts i r := by
  obtain ⟨a, h⟩ := h
  exact ⟨a, fun f hf => (congrFun (congrFun (if_neg hc) ts) i).trans (h f hf)⟩
end OS

namespace OS
open PySem PySem.Spec PyProof.Rows L2
def topS (i : Nat) : Stmt := PySem.Challenge.pw_onescore_k04_rules_of_scores.main.body.getD i (.Pass ⟨0, 0, 0, 0⟩)
abbrev s_InvalidScore___init__ : Stmt := inClass (topS 2) 0
abbrev s_key_of : Stmt := topS 4
theorem sc_key_of : FnScope ["tree", "parts", "waiting", "part"] ["tree"] (defScope s_key_of) := ⟨rfl, rfl, rfl, by decide +kernel, rfl, by decide +kernel, by decide +kernel⟩
abbrev s_numbered : Stmt := topS 5
theorem sc_numbered : FnScope ["keys", "numbers", "key"] ["keys"] (defScope s_numbered) := ⟨rfl, rfl, rfl, by decide +kernel, rfl, by decide +kernel, by decide +kernel⟩
abbrev s_inner_blocks : Stmt := topS 6
theorem sc_inner_blocks : FnScope ["statement"] ["statement"] (defScope s_inner_blocks) := ⟨rfl, rfl, rfl, by decide +kernel, rfl, by decide +kernel, by decide +kernel⟩
abbrev s_listed : Stmt := topS 7
theorem sc_listed : FnScope ["block", "found", "statement", "waiting", "loops", "inner", "part"] ["block"] (defScope s_listed) := ⟨rfl, rfl, rfl, by decide +kernel, rfl, by decide +kernel, by decide +kernel⟩
abbrev s_are_different : Stmt := topS 12
theorem sc_are_different : FnScope ["names"] ["names"] (defScope s_are_different) := ⟨rfl, rfl, rfl, by decide +kernel, rfl, by decide +kernel, by decide +kernel⟩
abbrev s_ends_of : Stmt := topS 13
theorem sc_ends_of : FnScope ["statement"] ["statement"] (defScope s_ends_of) := ⟨rfl, rfl, rfl, by decide +kernel, rfl, by decide +kernel, by decide +kernel⟩
abbrev s_is_right_call : Stmt := topS 14
theorem sc_is_right_call : FnScope ["statement", "counts", "_", "part", "ends"] ["statement", "counts"] (defScope s_is_right_call) := ⟨rfl, rfl, rfl, by decide +kernel, rfl, by decide +kernel, by decide +kernel⟩
abbrev s_check_names : Stmt := topS 15
theorem sc_check_names : FnScope ["ends", "parts", "part"] ["ends", "parts"] (defScope s_check_names) := ⟨rfl, rfl, rfl, by decide +kernel, rfl, by decide +kernel, by decide +kernel⟩
abbrev s_check_statement : Stmt := topS 16
theorem sc_check_statement : FnScope ["statement", "ends", "counts", "end"] ["statement", "ends", "counts"] (defScope s_check_statement) := ⟨rfl, rfl, rfl, by decide +kernel, rfl, by decide +kernel, by decide +kernel⟩
abbrev s_check_block : Stmt := topS 17
theorem sc_check_block : FnScope ["block", "ends", "counts", "statement", "_"] ["block", "ends", "counts"] (defScope s_check_block) := ⟨rfl, rfl, rfl, by decide +kernel, rfl, by decide +kernel, by decide +kernel⟩
abbrev s_played_size : Stmt := topS 18
theorem sc_played_size : FnScope ["block", "sizes", "many", "depth", "statement", "loops", "inner_many", "inner_depth"] ["block", "sizes"] (defScope s_played_size) := ⟨rfl, rfl, rfl, by decide +kernel, rfl, by decide +kernel, by decide +kernel⟩
abbrev s_part_sizes : Stmt := topS 19
theorem sc_part_sizes : FnScope ["parts", "blocks", "name", "callers", "missing", "called", "other", "ready", "sizes", "caller", "part", "statement", "_"] ["parts"] (defScope s_part_sizes) := ⟨rfl, rfl, rfl, by decide +kernel, rfl, by decide +kernel, by decide +kernel⟩
abbrev s_check_tree : Stmt := topS 20
theorem sc_check_tree : FnScope ["tree", "ends", "parts", "block", "part", "counts", "sizes", "many", "depth"] ["tree"] (defScope s_check_tree) := ⟨rfl, rfl, rfl, by decide +kernel, rfl, by decide +kernel, by decide +kernel⟩
abbrev s_renamed : Stmt := topS 24
theorem sc_renamed : FnScope ["statement", "names", "kind", "end"] ["statement", "names"] (defScope s_renamed) := ⟨rfl, rfl, rfl, by decide +kernel, rfl, by decide +kernel, by decide +kernel⟩
abbrev s_tasks : Stmt := topS 25
theorem sc_tasks : FnScope ["block", "names", "owner", "branch", "statement"] ["block", "names", "owner", "branch"] (defScope s_tasks) := ⟨rfl, rfl, rfl, by decide +kernel, rfl, by decide +kernel, by decide +kernel⟩
abbrev s_call_tasks : Stmt := topS 26
theorem sc_call_tasks : FnScope ["statement", "names", "owner", "branch", "blocks", "parameters", "block", "inner", "parameter", "end"] ["statement", "names", "owner", "branch", "blocks"] (defScope s_call_tasks) := ⟨rfl, rfl, rfl, by decide +kernel, rfl, by decide +kernel, by decide +kernel⟩
abbrev s_played_rows : Stmt := topS 27
theorem sc_played_rows : FnScope ["tree", "ends", "parts", "block", "sizes", "blocks", "rows", "waiting", "statement", "names", "owner", "branch", "inner", "at", "part", "end"] ["tree"] (defScope s_played_rows) := ⟨rfl, rfl, rfl, by decide +kernel, rfl, by decide +kernel, by decide +kernel⟩
abbrev s_next_position : Stmt := topS 28
theorem sc_next_position : FnScope ["rows", "position", "followers", "behind", "owner"] ["rows", "position", "followers", "behind"] (defScope s_next_position) := ⟨rfl, rfl, rfl, by decide +kernel, rfl, by decide +kernel, by decide +kernel⟩
abbrev s_next_positions : Stmt := topS 29
theorem sc_next_positions : FnScope ["rows", "firsts", "lasts", "followers", "position", "_", "owner", "branch", "behind", "goals", "statement", "goal"] ["rows"] (defScope s_next_positions) := ⟨rfl, rfl, rfl, by decide +kernel, rfl, by decide +kernel, by decide +kernel⟩
abbrev s_value_of : Stmt := topS 30
theorem sc_value_of : FnScope ["statement", "kind"] ["statement"] (defScope s_value_of) := ⟨rfl, rfl, rfl, by decide +kernel, rfl, by decide +kernel, by decide +kernel⟩
abbrev s_Score___init__ : Stmt := inClass (topS 31) 0
theorem sc_Score___init__ : FnScope ["self", "tree", "rows", "row", "statement"] ["self", "tree"] (defScope s_Score___init__) := ⟨rfl, rfl, rfl, by decide +kernel, rfl, by decide +kernel, by decide +kernel⟩
abbrev s__law_tape : Stmt := topS 33
theorem sc__law_tape : FnScope ["script", "cell", "cells", "seed"] ["script"] (defScope s__law_tape) := ⟨rfl, rfl, rfl, by decide +kernel, rfl, by decide +kernel, by decide +kernel⟩
abbrev s__law_take : Stmt := topS 34
theorem sc__law_take : FnScope ["tape", "many", "drawn", "mixed"] ["tape", "many"] (defScope s__law_take) := ⟨rfl, rfl, rfl, by decide +kernel, rfl, by decide +kernel, by decide +kernel⟩
abbrev s__law_is_integer : Stmt := topS 35
theorem sc__law_is_integer : FnScope ["actual"] ["actual"] (defScope s__law_is_integer) := ⟨rfl, rfl, rfl, by decide +kernel, rfl, by decide +kernel, by decide +kernel⟩
abbrev s__law_same_items : Stmt := topS 36
theorem sc__law_same_items : FnScope ["actual", "expected", "k"] ["actual", "expected"] (defScope s__law_same_items) := ⟨rfl, rfl, rfl, by decide +kernel, rfl, by decide +kernel, by decide +kernel⟩
abbrev s__law_same : Stmt := topS 37
theorem sc__law_same : FnScope ["actual", "expected", "key"] ["actual", "expected"] (defScope s__law_same) := ⟨rfl, rfl, rfl, by decide +kernel, rfl, by decide +kernel, by decide +kernel⟩
abbrev s__law_number : Stmt := topS 38
theorem sc__law_number : FnScope ["tape"] ["tape"] (defScope s__law_number) := ⟨rfl, rfl, rfl, by decide +kernel, rfl, by decide +kernel, by decide +kernel⟩
abbrev s__law_value : Stmt := topS 39
theorem sc__law_value : FnScope ["tape", "depth", "choice", "sign"] ["tape", "depth"] (defScope s__law_value) := ⟨rfl, rfl, rfl, by decide +kernel, rfl, by decide +kernel, by decide +kernel⟩
abbrev s__law_two : Stmt := topS 40
theorem sc__law_two : FnScope ["tape", "ends", "one", "other"] ["tape", "ends"] (defScope s__law_two) := ⟨rfl, rfl, rfl, by decide +kernel, rfl, by decide +kernel, by decide +kernel⟩
abbrev s__law_statement : Stmt := topS 41
theorem sc__law_statement : FnScope ["tape", "ends", "parts", "depth", "choice", "variable", "end", "sender", "receiver", "label", "part", "fitting", "chosen", "k", "rest", "yes", "name"] ["tape", "ends", "parts", "depth"] (defScope s__law_statement) := ⟨rfl, rfl, rfl, by decide +kernel, rfl, by decide +kernel, by decide +kernel⟩
abbrev s__law_block : Stmt := topS 42
theorem sc__law_block : FnScope ["tape", "ends", "parts", "depth", "most", "k"] ["tape", "ends", "parts", "depth", "most"] (defScope s__law_block) := ⟨rfl, rfl, rfl, by decide +kernel, rfl, by decide +kernel, by decide +kernel⟩
abbrev s__law_tree : Stmt := topS 43
theorem sc__law_tree : FnScope ["tape", "depth", "most", "ends", "parts", "k", "parameters", "name"] ["tape", "depth", "most"] (defScope s__law_tree) := ⟨rfl, rfl, rfl, by decide +kernel, rfl, by decide +kernel, by decide +kernel⟩
abbrev s__law_all : Stmt := topS 44
theorem sc__law_all : FnScope ["block", "found", "one"] ["block"] (defScope s__law_all) := ⟨rfl, rfl, rfl, by decide +kernel, rfl, by decide +kernel, by decide +kernel⟩
abbrev s__law_double : Stmt := topS 45
theorem sc__law_double : FnScope ["names", "k"] ["names"] (defScope s__law_double) := ⟨rfl, rfl, rfl, by decide +kernel, rfl, by decide +kernel, by decide +kernel⟩
abbrev s__law_played : Stmt := topS 46
theorem sc__law_played : FnScope ["block", "names", "parts", "found", "one", "parameters", "inner", "more", "k", "yes"] ["block", "names", "parts"] (defScope s__law_played) := ⟨rfl, rfl, rfl, by decide +kernel, rfl, by decide +kernel, by decide +kernel⟩
abbrev s__law_play : Stmt := topS 47
theorem sc__law_play : FnScope ["tree", "parts", "name", "parameters", "block", "names", "end"] ["tree"] (defScope s__law_play) := ⟨rfl, rfl, rfl, by decide +kernel, rfl, by decide +kernel, by decide +kernel⟩
abbrev s__law_spoilt : Stmt := topS 48
theorem sc__law_spoilt : FnScope ["tape", "tree", "ends", "parts", "block", "choice", "own", "k"] ["tape", "tree"] (defScope s__law_spoilt) := ⟨rfl, rfl, rfl, by decide +kernel, rfl, by decide +kernel, by decide +kernel⟩
abbrev s__law_long : Stmt := topS 49
theorem sc__law_long : FnScope ["tape", "tree", "ends", "parts", "block", "inner", "k", "call"] ["tape", "tree"] (defScope s__law_long) := ⟨rfl, rfl, rfl, by decide +kernel, rfl, by decide +kernel, by decide +kernel⟩
abbrev s__law_statement_rule : Stmt := topS 50
theorem sc__law_statement_rule : FnScope ["one", "ends", "parts", "name"] ["one", "ends", "parts"] (defScope s__law_statement_rule) := ⟨rfl, rfl, rfl, by decide +kernel, rfl, by decide +kernel, by decide +kernel⟩
abbrev s__law_calls : Stmt := topS 51
theorem sc__law_calls : FnScope ["parts", "name", "one"] ["parts", "name"] (defScope s__law_calls) := ⟨rfl, rfl, rfl, by decide +kernel, rfl, by decide +kernel, by decide +kernel⟩
abbrev s__law_circle : Stmt := topS 52
theorem sc__law_circle : FnScope ["parts", "name", "reached", "k", "other", "one"] ["parts"] (defScope s__law_circle) := ⟨rfl, rfl, rfl, by decide +kernel, rfl, by decide +kernel, by decide +kernel⟩
abbrev s__law_measure : Stmt := topS 53
theorem sc__law_measure : FnScope ["block", "parts", "size", "deep", "one", "more", "inner", "part"] ["block", "parts"] (defScope s__law_measure) := ⟨rfl, rfl, rfl, by decide +kernel, rfl, by decide +kernel, by decide +kernel⟩
abbrev s__law_rule : Stmt := topS 54
theorem sc__law_rule : FnScope ["tree", "ends", "listed_v", "block", "parts", "name", "parameters", "inner", "home", "one", "size", "deep", "part"] ["tree"] (defScope s__law_rule) := ⟨rfl, rfl, rfl, by decide +kernel, rfl, by decide +kernel, by decide +kernel⟩
abbrev s__law_told : Stmt := topS 55
theorem sc__law_told : FnScope ["tree", "whole", "e"] ["tree", "whole"] (defScope s__law_told) := ⟨rfl, rfl, rfl, by decide +kernel, rfl, by decide +kernel, by decide +kernel⟩
abbrev s_law : Stmt := topS 56
theorem sc_law : FnScope ["script", "tape", "tree", "k", "rule"] ["script"] (defScope s_law) := ⟨rfl, rfl, rfl, by decide +kernel, rfl, by decide +kernel, by decide +kernel⟩
/-- the built-in names are the built-ins' -/
structure Txt (K : PySem.W.Frag) (mg : Str → Option Value) : Prop where
  len : mg "len" = none
  abs : mg "abs" = none
  int : mg "int" = none
  bool : mg "bool" = none
  str : mg "str" = none
  list : mg "list" = none
  tuple : mg "tuple" = none
  dict : mg "dict" = none
  isinstance : mg "isinstance" = none
  range : mg "range" = none
  set : mg "set" = none
  zip : mg "zip" = none
  all : mg "all" = none
  max : mg "max" = none
  sorted : mg "sorted" = none
  reversed : mg "reversed" = none
  enumerate : mg "enumerate" = none
theorem pe_dgetNK {X : Cx} {P : Program} {w : World} {K : PySem.W.Frag} {o i : Expr} {td ty : TE} {pos : Pos} (hP : X.prog = P) (hw : X.w = w) (hK : X.K = K) (hu : X.A.units + 64 < cLine) (ho : PE X o td) (hi : PE X i ty) (hs : NoSl i) : PE X (.Subscript o i pos) (tDGetN P w K td ty) := by
  subst hP hw hK
  exact pe_dgetN hu ho hi hs
theorem pi_listK {X : Cx} {K : PySem.W.Frag} {tg l : Expr} {tl : TE} (hK : X.K = K) (hl : PE X l tl) : PI X tg l (iList K tl) := by
  subst hK
  exact pi_list hl
theorem pi_tupKK {X : Cx} {K : PySem.W.Frag} {tg l : Expr} {tl : TE} (hK : X.K = K) (hl : PE X l tl) : PI X tg l (iTup K tl) := by
  subst hK
  exact pi_tup hl
/-! ### tools (as in t11_key, t11_st, t11_num) -/
theorem lt_units {A : Around} (h : A.units + 64 < cLine) : A.units + 1 < cLine := by omega
theorem At.kind {K : PySem.W.Frag} {H : Hp} {d : Dt} {v : V} (hk : kable d) (hd : isTup d = false) (h : At K H d v) : v = .non ∧ d = .non ∨ (∃ i, v = .int i ∧ d = .int i) ∨ ∃ x, v = .str x ∧ d = .str x := by
  cases d with
  | non => unfold At at h; exact .inl ⟨h, rfl⟩
  | bl b => simp only [kable] at hk
  | int i => unfold At at h; exact .inr (.inl ⟨i, h, rfl⟩)
  | str x => unfold At at h; exact .inr (.inr ⟨x, h, rfl⟩)
  | tup xs => cases hd
  | lst xs => simp only [kable] at hk
theorem kableL_app : ∀ {a b : List Dt}, kableL (a ++ b) ↔ kableL a ∧ kableL b
  | [], b => by simp [kableL]
  | x :: r, b => by
    simp only [List.cons_append, kableL, kableL_app (a := r) (b := b), and_assoc]
theorem kableL_rev : ∀ {a : List Dt}, kableL a → kableL a.reverse
  | [], h => h
  | x :: r, h => by
    simp only [kableL] at h
    rw [List.reverse_cons, kableL_app]
    exact ⟨kableL_rev h.2, h.1, by simp only [kableL]⟩
theorem AtL.app {K : PySem.W.Frag} {H : Hp} : ∀ {a b : List Dt} {us vs : List V}, AtL K H a us → AtL K H b vs → AtL K H (a ++ b) (us ++ vs)
  | [], b, us, vs, h1, h2 => by
    unfold AtL at h1
    subst h1
    exact h2
  | x :: r, b, us, vs, h1, h2 => by
    unfold AtL at h1
    obtain ⟨v, q, rfl, hd, h⟩ := h1
    show AtL K H (x :: (r ++ b)) (v :: (q ++ vs))
    unfold AtL
    exact ⟨v, _, rfl, hd, AtL.app h h2⟩
theorem AtL.rev {K : PySem.W.Frag} {H : Hp} : ∀ {a : List Dt} {us : List V}, AtL K H a us → AtL K H a.reverse us.reverse
  | [], us, h => by
    unfold AtL at h
    subst h
    show AtL K H [] []
    unfold AtL
    rfl
  | x :: r, us, h => by
    unfold AtL at h
    obtain ⟨v, q, rfl, hd, h⟩ := h
    rw [List.reverse_cons, List.reverse_cons]
    exact AtL.snoc hd (AtL.rev h)
theorem last_app (q : List V) (v : V) : (q ++ [v])[(q ++ [v]).length - 1]? = some v := by
  rw [← List.getLast?_eq_getElem?]
  simp
theorem same_off {H H' : Hp} {p : Addr} {o : HO} (h : H p = none) (s : Same H H') : Same H (upd H' p o) := fun b x e => by
  rw [upd_ne (ne_of_none e h)]
  exact s b x e
theorem tup_list {H : Hp} {a : Addr} {xs : List V} {o : HO} (ha : H a = some (.lst xs)) : ∀ b ys, H b = some (.tup ys) → upd H a o b = some (.tup ys) := fun b ys e => by
  rw [upd_ne (fun z => by rw [z, ha] at e; cases e)]
  exact e
theorem iteDT {c : Prop} [Decidable c] (h : c) {A B : Prop} (a : A) : if decide c = true then A else B := by
  rw [if_pos (decide_eq_true h)]
  exact a
theorem iteDF {c : Prop} [Decidable c] (h : ¬ c) {A B : Prop} (b : B) : if decide c = true then A else B := by
  rw [if_neg (fun e => h (of_decide_eq_true e))]
  exact b
theorem kable_of {l : List Dt} (h : kableL l) : ∀ d ∈ l, kable d := fun d hd => by
  induction l with
  | nil => cases hd
  | cons x r ih =>
    simp only [kableL] at h
    rcases List.mem_cons.mp hd with e | e
    · rw [e]
      exact h.1
    · exact ih h.2 e
theorem kableL_of : ∀ {l : List Dt}, (∀ d ∈ l, kable d) → kableL l
  | [], _ => by simp only [kableL]
  | x :: r, h => by
    simp only [kableL]
    exact ⟨h x List.mem_cons_self, kableL_of fun d hd => h d (List.mem_cons_of_mem _ hd)⟩
end OS

namespace OS
open PySem PySem.Spec PyProof.Rows L2
/-! ### inner_blocks, listed -/
theorem val_kable : ∀ x : Val, kable x.dt
  | .num n => by simp [Val.dt, kable, kableL]
  | .name x => by simp [Val.dt, kable, kableL]
  | .op s a b => by
    have h1 := val_kable a
    have h2 := val_kable b
    simp [Val.dt, kable, kableL, h1, h2]
theorem names_kable (es : List Str) : kableL (es.map Dt.str) := by
  induction es with
  | nil => simp [kableL]
  | cons x r ih => simp [kableL, kable, ih]
mutual
theorem stm_kable : ∀ s : Stm, kable s.dt
  | .msg a b l v x => by simp [Stm.dt, kable, kableL, val_kable v]
  | .set e x v => by simp [Stm.dt, kable, kableL, val_kable v]
  | .ask e x => by simp [Stm.dt, kable, kableL]
  | .call p es => by
    have := names_kable es
    simp only [Stm.dt, namesDt, kable, kableL, true_and, and_true]
    exact this
  | .ite e v y n => by
    have h1 := blk_kable y
    have h2 := blk_kable n
    simp [Stm.dt, kable, kableL, val_kable v, h1, h2]
  | .whl e v b => by
    have h1 := blk_kable b
    simp [Stm.dt, kable, kableL, val_kable v, h1]
theorem blk_kable : ∀ b : List Stm, kableL (blkDts b)
  | [] => by simp [blkDts, kableL]
  | s :: r => by
    have h1 := stm_kable s
    have h2 := blk_kable r
    simp [blkDts, kableL, h1, h2]
end
theorem blkDts_map (b : List Stm) : blkDts b = b.map Stm.dt := by
  induction b with
  | nil => simp [blkDts]
  | cons x r ih => simp [blkDts, ih]
def innerB : Stm → List (List Stm)
  | .ite _ _ y n => [y, n]
  | .whl _ _ b => [b]
  | _ => []
def isWhl : Stm → Bool
  | .whl _ _ _ => true
  | _ => false
def stepL (s : Stm) (l : Nat) : Nat := if isWhl s = true then l + 1 else l
mutual
def nS : Stm → Nat
  | .ite _ _ y n => 1 + nB y + nB n
  | .whl _ _ b => 1 + nB b
  | .msg _ _ _ _ _ => 1
  | .set _ _ _ => 1
  | .ask _ _ => 1
  | .call _ _ => 1
def nB : List Stm → Nat
  | [] => 0
  | s :: r => nS s + nB r
end
mutual
/-- a statement and all in it, in the order of the text, with the whiles around each -/
def preS : Nat → Stm → List (Stm × Nat)
  | l, .ite e v y n => (.ite e v y n, l) :: (preB l y ++ preB l n)
  | l, .whl e v b => (.whl e v b, l) :: preB (l + 1) b
  | l, .msg a b c v x => [(.msg a b c v x, l)]
  | l, .set e x v => [(.set e x v, l)]
  | l, .ask e x => [(.ask e x, l)]
  | l, .call p es => [(.call p es, l)]
def preB : Nat → List Stm → List (Stm × Nat)
  | _, [] => []
  | l, s :: r => preS l s ++ preB l r
end
theorem preB_flat (l : Nat) : ∀ b : List Stm, preB l b = b.flatMap (preS l)
  | [] => by simp [preB]
  | s :: r => by simp [preB, preB_flat l r]
def preW (W : List (Stm × Nat)) : List (Stm × Nat) := W.flatMap fun p => preS p.2 p.1
def nW (W : List (Stm × Nat)) : Nat := (W.map fun p => nS p.1).sum
theorem preW_app (a b : List (Stm × Nat)) : preW (a ++ b) = preW a ++ preW b := by simp [preW]
theorem nW_app (a b : List (Stm × Nat)) : nW (a ++ b) = nW a + nW b := by simp [nW]
theorem preW_blk (l : Nat) (b : List Stm) : preW (b.map fun s => (s, l)) = preB l b := by
  rw [preB_flat, preW, List.flatMap_map]
theorem nW_blk (l : Nat) : ∀ b : List Stm, nW (b.map fun s => (s, l)) = nB b
  | [] => by simp [nW, nB]
  | s :: r => by
    have := nW_blk l r
    simp only [nW, List.map_cons, List.sum_cons, nB] at this ⊢
    omega
theorem nB_len : ∀ b : List Stm, b.length ≤ nB b
  | [] => Nat.zero_le _
  | s :: r => by
    have h1 := nB_len r
    have h2 : 1 ≤ nS s := by cases s <;> simp [nS] <;> omega
    simp only [nB, List.length_cons]
    omega
theorem nS_inner (s : Stm) (l : Nat) : nS s = 1 + nW ((innerB s).flatten.map fun x => (x, l)) := by
  rw [nW_blk]
  have app : ∀ a b : List Stm, nB (a ++ b) = nB a + nB b := by
    intro a b
    induction a with
    | nil => simp [nB]
    | cons x r ih => simp only [List.cons_append, nB, ih]; omega
  cases s <;> simp [nS, innerB, nB, app] <;> omega
theorem preS_inner (s : Stm) (l : Nat) : preS l s = (s, l) :: preW ((innerB s).flatten.map fun x => (x, stepL s l)) := by
  rw [preW_blk]
  have app : ∀ (k : Nat) (a b : List Stm), preB k (a ++ b) = preB k a ++ preB k b := by
    intro k a b
    rw [preB_flat, preB_flat, preB_flat, List.flatMap_append]
  cases s <;> simp [preS, innerB, stepL, isWhl, preB, app]
def pairD (p : Stm × Nat) : Dt := .tup [p.1.dt, .int (p.2 : Nat)]
theorem pair_kable (p : Stm × Nat) : kable (pairD p) := by simp [pairD, kable, kableL, stm_kable]
theorem pairs_kable (W : List (Stm × Nat)) : kableL (W.map pairD) := kableL_of fun d hd => by
  obtain ⟨p, _, rfl⟩ := List.mem_map.mp hd
  exact pair_kable p
theorem nS_pos (s : Stm) : 1 ≤ nS s := by cases s <;> simp [nS] <;> omega
theorem nW_len : ∀ W : List (Stm × Nat), W.length ≤ nW W
  | [] => Nat.zero_le _
  | p :: r => by
    have h1 := nW_len r
    have h2 := nS_pos p.1
    simp only [nW, List.map_cons, List.sum_cons, List.length_cons] at h1 ⊢
    omega
theorem tail_flat {α : Type} (L : List (List α)) (k : Nat) : ((L.reverse.take k).reverse).flatten.length ≤ L.flatten.length := by
  rw [List.reverse_take, List.reverse_reverse]
  have e : L.flatten = (L.take (L.reverse.length - k)).flatten ++ (L.drop (L.reverse.length - k)).flatten := by
    rw [← List.flatten_append, List.take_append_drop]
  rw [e, List.length_append]
  omega
theorem stm_head {K : PySem.W.Frag} {H : Hp} {s : Stm} {v : V} (h : At K H s.dt v) : ∃ p kk r, v = .ref p ∧ H p = some (.tup (.str kk :: r)) ∧ (kk = "while" ↔ isWhl s = true) := by
  cases s <;>
  · unfold Stm.dt At at h
    obtain ⟨p, vs, rfl, hp, hl⟩ := h
    simp only [AtL] at hl
    obtain ⟨v0, r0, rfl, h0, _⟩ := hl
    unfold At at h0
    subst h0
    exact ⟨p, _, _, rfl, hp, by first | (simp only [isWhl]; done) | (simp only [isWhl]; decide +kernel)⟩
theorem pair_at {K : PySem.W.Frag} {H : Hp} {p : Stm × Nat} {v : V} : At K H (pairD p) v ↔ ∃ a sv, v = .ref a ∧ H a = some (.tup [sv, .int (p.2 : Nat)]) ∧ At K H p.1.dt sv := by
  simp only [pairD, At, AtL]
  constructor
  · rintro ⟨a, vs, rfl, ha, sv, r, rfl, h1, v2, r2, rfl, rfl, rfl⟩
    exact ⟨a, sv, rfl, ha, h1⟩
  · rintro ⟨a, sv, rfl, ha, h1⟩
    exact ⟨a, _, rfl, ha, sv, _, rfl, h1, _, _, rfl, rfl, rfl⟩
section
variable {P : Program} {w : World} {K : PySem.W.Frag} {mg : Str → Option Value} {base : Heap}
def spInn (K : PySem.W.Frag) : Sp := fun vs H Q _ => ∃ (v : V) (s : Stm), vs = [v] ∧ At K H s.dt v ∧ ∀ p bs H', Same H H' → H p = none → H' p = some (.lst bs) → AtL K H' ((innerB s).map blkDt) bs → Q (.ref p) H'
theorem ok_inner_blocks {f : Addr} {fd : FuncData} (F : Fun K "inner_blocks" "inner_blocks" s_inner_blocks f fd) (T : Txt K mg) : FnOk P w K mg base CX0 1 f fd ["statement"] (spInn K) := by
  refine F.ok sc_inner_blocks (fun vs H Q E h => ?_) (fun cdv A outer s H vs Q E hr h => ?_)
  · obtain ⟨v, x, rfl, _⟩ := h
    rfl
  · obtain ⟨v, x, rfl, hat, k⟩ := h
    refine ⟨_, (pss_cons (ps_if (pt_cmpR op_eq (pe_ix ix_tup (pv 0) pe_int (fun _ _ => rfl)) pe_str (nomark _)) (pss_one (ps_ret (pe_lst (pa_cons (pe_ix ix_tup (pv 0) pe_int (fun _ _ => rfl)) (pa_cons (pe_ix ix_tup (pv 0) pe_int (fun _ _ => rfl)) pa_nil))))) pss_nil)
      (pss_cons (ps_if (pt_cmpR op_eq (pe_ix ix_tup (pv 0) pe_int (fun _ _ => rfl)) pe_str (nomark _)) (pss_one (ps_ret (pe_lst (pa_cons (pe_ix ix_tup (pv 0) pe_int (fun _ _ => rfl)) pa_nil)))) pss_nil)
      (pss_one (ps_ret (pe_lst pa_nil))))), ?_⟩
    cases x with
    | ite e v y n =>
      unfold Stm.dt At at hat
      obtain ⟨p, vs, rfl, hp, hl⟩ := hat
      simp only [AtL] at hl
      obtain ⟨v0, r0, rfl, h0, v1, r1, rfl, h1, v2, r2, rfl, h2, v3, r3, rfl, h3, v4, r4, rfl, h4, rfl⟩ := hl
      unfold At at h0
      subst h0
      refine ⟨_, rfl, p, _, _, _, rfl, rfl, SqT.of hp, atI_nat (j := 0) rfl, rfl, _, rfl, iteDT rfl ?_⟩
      refine ⟨_, rfl, p, _, _, _, rfl, rfl, SqT.of hp, atI_nat (j := 3) rfl, _, rfl, p, _, _, _, rfl, rfl, SqT.of hp, atI_nat (j := 4) rfl, by show 2 ≤ sizeLine; decide, fun q hq => ?_⟩
      have s1 := same_upd (o := .lst [v3, v4]) hq
      refine k q [v3, v4] _ s1 hq upd_same ?_
      simp only [innerB, List.map_cons, List.map_nil, AtL]
      exact ⟨_, _, rfl, At.keep s1 h3, _, _, rfl, At.keep s1 h4, rfl⟩
    | whl e v b =>
      unfold Stm.dt At at hat
      obtain ⟨p, vs, rfl, hp, hl⟩ := hat
      simp only [AtL] at hl
      obtain ⟨v0, r0, rfl, h0, v1, r1, rfl, h1, v2, r2, rfl, h2, v3, r3, rfl, h3, rfl⟩ := hl
      unfold At at h0
      subst h0
      refine ⟨_, rfl, p, _, _, _, rfl, rfl, SqT.of hp, atI_nat (j := 0) rfl, rfl, _, rfl, iteDF (by decide +kernel) ?_⟩
      refine ⟨_, rfl, p, _, _, _, rfl, rfl, SqT.of hp, atI_nat (j := 0) rfl, rfl, _, rfl, iteDT rfl ?_⟩
      refine ⟨_, rfl, p, _, _, _, rfl, rfl, SqT.of hp, atI_nat (j := 3) rfl, by show 1 ≤ sizeLine; decide, fun q hq => ?_⟩
      have s1 := same_upd (o := .lst [v3]) hq
      refine k q [v3] _ s1 hq upd_same ?_
      simp only [innerB, List.map_cons, List.map_nil, AtL]
      exact ⟨_, _, rfl, At.keep s1 h3, rfl⟩
    | _ =>
      unfold Stm.dt At at hat
      obtain ⟨p, vs, rfl, hp, hl⟩ := hat
      simp only [AtL] at hl
      obtain ⟨v0, r0, rfl, h0, _⟩ := hl
      unfold At at h0
      subst h0
      refine ⟨_, rfl, p, _, _, _, rfl, rfl, SqT.of hp, atI_nat (j := 0) rfl, rfl, _, rfl, iteDF (fun e => absurd (V.str.inj e) (by decide +kernel)) ?_⟩
      refine ⟨_, rfl, p, _, _, _, rfl, rfl, SqT.of hp, atI_nat (j := 0) rfl, rfl, _, rfl, iteDF (fun e => absurd (V.str.inj e) (by decide +kernel)) ?_⟩
      exact ⟨Nat.zero_le _, fun q hq => k q [] _ (same_upd hq) hq upd_same (by simp [innerB, AtL])⟩
def spLis (K : PySem.W.Frag) : Sp := fun vs H Q _ => ∃ (v : V) (b : List Stm), vs = [v] ∧ At K H (blkDt b) v ∧ nB b ≤ 10000 ∧ ∀ p us H', Same H H' → H' p = some (.lst us) → AtL K H' ((preB 0 b).map pairD) us → Q (.ref p) H'
theorem ok_listed {f : Addr} {fd : FuncData} (F : Fun K "listed" "listed" s_listed f fd) (T : Txt K mg) {f_inner_blocks : Addr} {d_inner_blocks : FuncData} (c_inner_blocks : Cal P w K mg base 1 "inner_blocks" ["statement"] (spInn K) f_inner_blocks d_inner_blocks) : FnOk P w K mg base CX0 2 f fd ["block"] (spLis K) := by
  refine F.ok sc_listed (fun vs H Q E h => ?_) (fun cdv A outer s H vs Q E hr h => ?_)
  · obtain ⟨v, x, rfl, _⟩ := h
    rfl
  · obtain ⟨v, b, rfl, hat, hsz, k⟩ := h
    have hat' := hat
    unfold blkDt At at hat
    obtain ⟨bp, bs, rfl, hb, hl⟩ := hat
    rw [blkDts_map] at hl
    have lb := hl.length
    rw [List.length_map] at lb
    have nl := nB_len b
    refine ⟨_, (pss_cons (ps_set (i := 1) sc_listed.nd rfl (.inl rfl) (pe_lst pa_nil))
      (pss_cons (ps_setLc (i := 3) (own := [("statement", 2)]) (g := gName 2) (by rfl) sc_listed.nd rfl rfl (sw_true rfl rfl rfl (by decide +kernel)) (pi_tup (pe_revT (pv 0))) (blkOk_by (N := ["block", "found", "statement", "waiting", "loops", "inner", "part"]) (sc := defScope s_listed) (by decide +kernel)) (fun _ _ _ _ _ => pg_name (i := 2) sc_listed.nd rfl (by first | exact Or.inl rfl | exact Or.inr rfl)) (fun _ _ _ _ _ => pts_nil) (fun _ _ _ _ _ => (pe_tup (pa_cons (pv 2) (pa_cons pe_int pa_nil)))))
      (pss_cons (ps_while PassesOwn.never (pt_truth (pv 3) (by intro _; rfl)) (pss_cons (ps_asg (pe_bm0 PySem.F.plainAttrs_list PySem.F.slot_list_pop PySem.F.type_list_pop mt_pop (pv 3)) (pg_tup (by rfl) (pgs_cons (pg_name (i := 2) sc_listed.nd rfl (.inl rfl)) (pgs_cons (pg_name (i := 4) sc_listed.nd rfl (.inr rfl)) pgs_nil))))
      (pss_cons (ps_expr (pe_bm PySem.F.plainAttrs_list PySem.F.slot_list_append PySem.F.type_list_append mt_append (pv 1) (pa_cons (pe_tup (pa_cons (pv 2) (pa_cons (pv 4) pa_nil))) pa_nil)))
      (Evl.pss_cut (ps_if (pt_cmpR op_eq (pe_ix ix_tup (pv 2) pe_int (fun _ _ => rfl)) pe_str (nomark _)) (pss_one (ps_aug (i := 4) sc_listed.nd rfl (.inr rfl) pe_int ip_add)) pss_nil)
      (pss_one (ps_for PassesOwn.never rfl (pi_list (pe_revL (pe_call c_inner_blocks.G (hr.mono (by decide)) (by rfl) c_inner_blocks.m c_inner_blocks.k c_inner_blocks.b .nil pass0 (pa_cons (pv 2) pa_nil)))) (pg_name (i := 5) sc_listed.nd rfl (.inl rfl)) (pss_one (ps_expr (pe_bm PySem.F.plainAttrs_list PySem.F.slot_list_extend PySem.F.type_list_extend mt_extend (pv 3) (pa_cons (pe_lc (own := [("part", 6)]) (g := gName 6) (by rfl) sc_listed.nd (pi_tup (pe_revT (pv 5))) (blkOk_by (N := ["block", "found", "statement", "waiting", "loops", "inner", "part"]) (sc := defScope s_listed) (by decide +kernel)) (fun _ _ _ _ _ => pg_name (i := 6) sc_listed.nd rfl (by first | exact Or.inl rfl | exact Or.inr rfl)) (fun _ _ _ _ _ => pts_nil) (fun _ _ _ _ _ => (pe_tup (pa_cons (pv 6) (pa_cons (pv 4) pa_nil))))) pa_nil))))))))))
      (pss_one (ps_ret (pv 1)))))), ?_⟩
    refine ⟨Nat.zero_le _, fun fl nfl => ?_⟩
    have s1 := same_upd (o := .lst []) nfl
    refine ⟨_, rfl, bp, _, rfl, SqT.of (s1 _ _ hb), fun rp nrp => ?_⟩
    have s2 := s1.trans (same_upd (o := .tup bs.reverse) nrp)
    have hrp : upd (upd H fl (.lst [])) rp (.tup bs.reverse) rp = some (.tup bs.reverse) := upd_same
    have hfl2 := (same_upd (o := .tup bs.reverse) nrp) fl _ upd_same
    have hlr := AtL.keep s2 hl.rev
    generalize upd (upd H fl (.lst [])) rp (.tup bs.reverse) = H2 at s2 hrp hfl2 hlr
    refine ⟨rp, rfl, ⟨_, SqT.of hrp⟩, fun wl nwl => ?_⟩
    refine lc_tup (K := K) (a := rp) (xs := bs.reverse) (fun i H' => ∃ acc, H' wl = some (.lst acc) ∧ AtL K H' ((b.reverse.take i).map fun s => pairD (s, 0)) acc ∧ Same H2 H') ⟨[], upd_same, by simp [AtL], same_upd nwl⟩ (fun i H' _ q => ?_) ?_ ?_
    · obtain ⟨_, _, _, sm⟩ := q
      exact SqT.of (sm _ _ hrp)
    · rintro i u H3 hu ⟨acc, hw, hA, s3⟩
      have hi : i < b.reverse.length := by
        have := (List.getElem?_eq_some_iff.mp hu).1
        rw [List.length_reverse] at this ⊢
        omega
      rw [← List.map_reverse] at hlr
      obtain ⟨v, e1, e2⟩ := hlr.get (i := i) (d := b.reverse[i].dt) (by rw [List.getElem?_map, List.getElem?_eq_getElem hi]; rfl)
      rw [hu] at e1
      have e1 := Option.some.inj e1
      subst e1
      refine ⟨rfl, iteT (B := True) ?_⟩
      refine ⟨_, rfl, by show 2 ≤ sizeLine; decide, fun q hq => ?_⟩
      have s4 := same_upd (o := .tup [u, V.int 0]) hq
      have hw4 := s4 _ _ hw
      have tk := tup_list (o := .lst (acc ++ [.ref q])) hw4
      have la := hA.length
      have ks : ∀ d ∈ (b.reverse.take i).map (fun s => pairD (s, 0)), kable d := fun d hd => by
        obtain ⟨y, _, rfl⟩ := List.mem_map.mp hd
        exact pair_kable _
      refine ⟨acc, hw4, ?_, acc ++ [.ref q], upd_same, ?_, same_off nwl (s3.trans s4)⟩
      · rw [la, List.length_map, List.length_take]
        exact sz6' (by rw [List.length_reverse] at hi ⊢; omega)
      · rw [List.take_add_one, List.getElem?_eq_getElem hi, List.map_append]
        refine AtL.snoc (ky_at tk (pair_kable _) ?_) (kyL_at tk (kableL_of ks) (AtL.keep s4 hA))
        simp only [pairD, At, AtL]
        exact ⟨q, _, rfl, upd_same, _, _, rfl, At.keep (s3.trans s4) e2, _, _, rfl, rfl, rfl⟩
    · rintro H3 ⟨acc, hw, hA, s3⟩
      rw [List.length_reverse, lb, List.take_of_length_le (by rw [List.length_reverse]; exact Nat.le_refl _)] at hA
      have hwf : wl ≠ fl := fun z => by
        rw [z, hfl2] at nwl
        cases nwl
      have hfl3 := s3 _ _ hfl2
      have s23 := s2.trans s3
      have nfl0 := nfl
      have nwl0 : H wl = none := s2.free nwl
      refine ⟨fun m σ H' => ∃ (F W : List (Stm × Nat)) (fs ws : List V) (y2 y4 y5 : Option V), σ = [some (.ref bp), some (.ref fl), y2, some (.ref wl), y4, y5, none] ∧ H' fl = some (.lst fs) ∧ H' wl = some (.lst ws.reverse) ∧ AtL K H' (F.map pairD) fs ∧ AtL K H' (W.map pairD) ws ∧ F ++ preW W = preB 0 b ∧ F.length + nW W ≤ nB b ∧ m = nW W ∧ Same H H',
        ⟨_, [], b.map fun s => (s, 0), [], acc.reverse, none, none, none, rfl, hfl3, by rw [List.reverse_reverse]; exact hw, by simp [AtL], ?_, by rw [preW_blk]; rfl, by rw [nW_blk]; simp, rfl, s23⟩, ?_⟩
      · have := hA.rev
        rw [← List.map_reverse, List.reverse_reverse] at this
        rw [List.map_map]
        exact this
      rintro m σ H4 ⟨F, W, fs, ws, y2, y4, y5, rfl, hf4, hw4, hF4, hW4, hcat, hle, rfl, s4⟩
      have lF := hF4.length
      rw [List.length_map] at lF
      cases W with
      | nil =>
        simp only [List.map_nil, AtL] at hW4
        subst hW4
        refine ⟨_, rfl, false, .inl ⟨_, SqL.of hw4, rfl⟩, iteF ⟨_, rfl, k fl fs H4 s4 hf4 ?_⟩⟩
        rw [← hcat]
        simp only [preW, List.flatMap_nil, List.append_nil]
        exact hF4
      | cons sl R =>
        obtain ⟨st, l⟩ := sl
        simp only [List.map_cons, AtL] at hW4
        obtain ⟨u, q, rfl, hu, hq⟩ := hW4
        rw [List.reverse_cons] at hw4
        refine ⟨_, rfl, true, .inl ⟨_, SqL.of hw4, by simp⟩, iteT ⟨_, fun _ _ h => h, ?_⟩⟩
        refine ⟨_, rfl, .inl ⟨rfl, _, SqL.of hw4⟩, wl, _, u, rfl, rfl, hw4, last_app _ _, ?_⟩
        rw [List.dropLast_concat]
        have tk := tup_list (o := .lst q.reverse) hw4
        have hu5 := ky_at tk (pair_kable _) hu
        have hq5 := kyL_at tk (pairs_kable _) hq
        have hF5 := kyL_at tk (pairs_kable _) hF4
        have hf5 : upd H4 wl (.lst q.reverse) fl = some (.lst fs) := by rw [upd_ne hwf.symm]; exact hf4
        have hw5 : upd H4 wl (.lst q.reverse) wl = some (.lst q.reverse) := upd_same
        have s5 := same_off (o := .lst q.reverse) nwl0 s4
        generalize upd H4 wl (.lst q.reverse) = H5 at hu5 hq5 hF5 hf5 hw5 s5
        obtain ⟨a, sv, rfl, ha, hst⟩ := pair_at.mp hu5
        refine ⟨a, _, rfl, SqT.of ha, rfl, _, _, rfl, _, _, rfl, rfl, ?_⟩
        refine ⟨_, rfl, .inl ⟨rfl, _, SqL.of hf5⟩, _, rfl, _, rfl, by show 2 ≤ sizeLine; decide, fun t ht => ?_⟩
        have s6 := same_upd (o := .tup [sv, V.int (l : Nat)]) ht
        have hf6 := s6 _ _ hf5
        have hle2 : F.length + nW ((st, l) :: R) ≤ nB b := hle
        have en : nW ((st, l) :: R) = nS st + nW R := by simp [nW]
        have eI := nS_inner st (stepL st l)
        refine ⟨fl, _, _, rfl, rfl, hf6, sz6' (by omega), ?_⟩
        have tk7 := tup_list (o := .lst (fs ++ [.ref t])) hf6
        have hF7 := AtL.snoc (d := pairD (st, l)) (ky_at tk7 (pair_kable _) (pair_at.mpr ⟨t, sv, rfl, upd_same, At.keep s6 hst⟩)) (kyL_at tk7 (pairs_kable _) (AtL.keep s6 hF5))
        have hq7 := kyL_at tk7 (pairs_kable _) (AtL.keep s6 hq5)
        have hst7 := ky_at tk7 (stm_kable st) (At.keep s6 hst)
        have hf7 : upd (upd H5 t (.tup [sv, V.int (l : Nat)])) fl (.lst (fs ++ [.ref t])) fl = some (.lst (fs ++ [.ref t])) := upd_same
        have hw7 : upd (upd H5 t (.tup [sv, V.int (l : Nat)])) fl (.lst (fs ++ [.ref t])) wl = some (.lst q.reverse) := by rw [upd_ne hwf]; exact s6 _ _ hw5
        have s7 := same_off (o := .lst (fs ++ [.ref t])) nfl0 (s5.trans s6)
        generalize upd (upd H5 t (.tup [sv, V.int (l : Nat)])) fl (.lst (fs ++ [.ref t])) = H7 at hF7 hq7 hst7 hf7 hw7 s7
        obtain ⟨p, kk, r, ep, hp, hk⟩ := stm_head hst7
        refine ⟨fun σ H' => σ = [some (.ref bp), some (.ref fl), some sv, some (.ref wl), some (.int (stepL st l : Nat)), y5, none] ∧ H' = H7, ?_, ?_⟩
        · subst ep
          refine ⟨_, rfl, p, _, _, _, rfl, rfl, SqT.of hp, atI_nat (j := 0) rfl, rfl, _, rfl, ?_⟩
          by_cases c : isWhl st = true
          · have e : stepL st l = l + 1 := by unfold stepL; rw [if_pos c]
            rw [e]
            exact iteDT (by rw [hk.mpr c]) ⟨_, rfl, _, _, rfl, rfl, rfl, rfl⟩
          · have e : stepL st l = l := by unfold stepL; rw [if_neg c]
            rw [e]
            exact iteDF (fun z => c (hk.mp (V.str.inj z))) ⟨rfl, rfl⟩
        · rintro σ H8 ⟨rfl, rfl⟩
          refine ⟨_, rfl, sv, st, rfl, hst7, fun ip ivs H9 s9 nip hip hiv => ⟨ip, ivs, rfl, SqL.of hip, fun rl nrl => ?_⟩⟩
          have sR := same_upd (o := .lst ivs.reverse) nrl
          have hrl : upd H9 rl (.lst ivs.reverse) rl = some (.lst ivs.reverse) := upd_same
          have s89 := s9.trans sR
          have hiv10 := AtL.keep sR hiv
          generalize upd H9 rl (.lst ivs.reverse) = H10 at hrl s89 hiv10
          refine ⟨rl, rfl, ⟨_, SqL.of hrl⟩, ?_⟩
          have rlw : rl ≠ wl := fun z => by
            have := s9 _ _ hw7
            rw [← z, nrl] at this
            cases this
          have lin : ivs.length = (innerB st).length := by rw [hiv.length, List.length_map]
          have nW8 := eI
          refine for_list (K := K) (a := rl) (xs := ivs.reverse) (fun i σ H' => ∃ (ws : List V) (y5 : Option V), σ = [some (.ref bp), some (.ref fl), some sv, some (.ref wl), some (.int (stepL st l : Nat)), y5, none] ∧ H' fl = some (.lst (fs ++ [.ref t])) ∧ H' wl = some (.lst ws.reverse) ∧ AtL K H' ((F ++ [(st, l)]).map pairD) (fs ++ [.ref t]) ∧
            AtL K H' ((((((innerB st).reverse.take i).reverse).flatten.map fun x => (x, stepL st l)) ++ R).map pairD) ws ∧ H' rl = some (.lst ivs.reverse) ∧ AtL K H' ((innerB st).map blkDt) ivs ∧ Same H H')
            ⟨q, y5, rfl, s89 _ _ hf7, s89 _ _ hw7, ?_, ?_, hrl, hiv10, s7.trans s89⟩ (fun i σ H' _ h => ?_) ?_ ?_
          · rw [List.map_append]
            exact AtL.keep s89 hF7
          · simp only [List.take_zero, List.reverse_nil, List.flatten_nil, List.map_nil, List.nil_append]
            exact AtL.keep s89 hq7
          · obtain ⟨_, _, _, _, _, _, _, e, _⟩ := h
            exact SqL.of e
          · rintro i v σ H11 hv ⟨ws, y5, rfl, hf11, hw11, hF11, hW11, hrl11, hiv11, s11⟩
            have hi : i < (innerB st).reverse.length := by
              have := (List.getElem?_eq_some_iff.mp hv).1
              rw [List.length_reverse] at this ⊢
              omega
            have hrv := hiv11.rev
            rw [← List.map_reverse] at hrv
            obtain ⟨v2, e1, e2⟩ := hrv.get (i := i) (d := blkDt (innerB st).reverse[i]) (by rw [List.getElem?_map, List.getElem?_eq_getElem hi]; rfl)
            rw [hv] at e1
            have e1 := Option.some.inj e1
            subst e1
            unfold blkDt At at e2
            obtain ⟨ib, bvs, rfl, hib, hbl⟩ := e2
            rw [blkDts_map] at hbl
            have lbv := hbl.length
            rw [List.length_map] at lbv
            have et : (innerB st).reverse.take (i + 1) = (innerB st).reverse.take i ++ [(innerB st).reverse[i]] := by rw [List.take_add_one, List.getElem?_eq_getElem hi]; rfl
            have tf := tail_flat (innerB st) (i + 1)
            have lfl := nW_len ((innerB st).flatten.map fun x => (x, stepL st l))
            have lRl := nW_len R
            have lws := hW11.length
            rw [et] at tf ⊢
            rw [List.reverse_append, List.reverse_singleton, List.singleton_append, List.flatten_cons] at tf ⊢
            rw [List.length_append] at tf
            rw [List.length_map] at lfl
            rw [List.length_map, List.length_append, List.length_map] at lws
            generalize (innerB st).reverse[i] = B at hib hbl lbv tf
            generalize ((innerB st).reverse.take i).reverse.flatten = X at hW11 tf lws
            refine ⟨_, rfl, .inl ⟨rfl, _, SqL.of hw11⟩, _, rfl, ib, bvs, rfl, SqT.of hib, fun rq nrq => ⟨rq, rfl, ⟨_, SqT.of upd_same⟩, fun C nC => ?_⟩⟩
            have sq := same_upd (o := .tup bvs.reverse) nrq
            have hrq : upd H11 rq (.tup bvs.reverse) rq = some (.tup bvs.reverse) := upd_same
            have hblr := AtL.keep sq hbl.rev
            generalize upd H11 rq (.tup bvs.reverse) = H12 at sq hrq hblr nC
            rw [← List.map_reverse] at hblr
            refine lc_tup (K := K) (a := rq) (xs := bvs.reverse) (fun j H' => ∃ acc, H' C = some (.lst acc) ∧ AtL K H' ((B.reverse.take j).map fun x => pairD (x, stepL st l)) acc ∧ Same H12 H') ⟨[], upd_same, by simp [AtL], same_upd nC⟩ (fun j H' _ q => ?_) ?_ ?_
            · obtain ⟨_, _, _, sm⟩ := q
              exact SqT.of (sm _ _ hrq)
            · rintro j u H13 hu ⟨acc, hC, hA, s13⟩
              have hj : j < B.reverse.length := by
                have := (List.getElem?_eq_some_iff.mp hu).1
                rw [List.length_reverse] at this ⊢
                omega
              obtain ⟨v3, e1, e2⟩ := hblr.get (i := j) (d := B.reverse[j].dt) (by rw [List.getElem?_map, List.getElem?_eq_getElem hj]; rfl)
              rw [hu] at e1
              have e1 := Option.some.inj e1
              subst e1
              refine ⟨rfl, iteT (B := True) ?_⟩
              refine ⟨_, rfl, _, rfl, by show 2 ≤ sizeLine; decide, fun z hz => ?_⟩
              have s14 := same_upd (o := .tup [u, V.int (stepL st l : Nat)]) hz
              have hC14 := s14 _ _ hC
              have tk := tup_list (o := .lst (acc ++ [.ref z])) hC14
              have la := hA.length
              have ks : ∀ d ∈ (B.reverse.take j).map (fun x => pairD (x, stepL st l)), kable d := fun d hd => by
                obtain ⟨y, _, rfl⟩ := List.mem_map.mp hd
                exact pair_kable _
              refine ⟨acc, hC14, ?_, acc ++ [.ref z], upd_same, ?_, same_off nC (s13.trans s14)⟩
              · rw [la, List.length_map, List.length_take]
                exact sz6' (by rw [List.length_reverse] at hj ⊢; omega)
              · rw [List.take_add_one, List.getElem?_eq_getElem hj, List.map_append]
                exact AtL.snoc (ky_at tk (pair_kable _) (pair_at.mpr ⟨z, u, rfl, upd_same, At.keep (s13.trans s14) e2⟩)) (kyL_at tk (kableL_of ks) (AtL.keep s14 hA))
            · rintro H13 ⟨acc, hC, hA, s13⟩
              rw [List.length_reverse, lbv, List.take_of_length_le (by rw [List.length_reverse]; exact Nat.le_refl _)] at hA
              have la := hA.length
              rw [List.length_map, List.length_reverse] at la
              have s113 := sq.trans s13
              have hw13 := s113 _ _ hw11
              have tk := tup_list (o := .lst (ws.reverse ++ acc)) hw13
              have hAr := hA.rev
              rw [← List.map_reverse, List.reverse_reverse] at hAr
              have kb : kableL ((innerB st).map blkDt) := kableL_of fun d hd => by
                obtain ⟨y, _, rfl⟩ := List.mem_map.mp hd
                simp only [blkDt, kable]
                exact blk_kable y
              refine ⟨wl, C, _, acc, rfl, rfl, hw13, hC, ?_, acc.reverse ++ ws, _, rfl, ?_, ?_, kyL_at tk (pairs_kable _) (AtL.keep s113 hF11), ?_, ?_, kyL_at tk kb (AtL.keep s113 hiv11), same_off nwl0 (s11.trans s113)⟩
              · rw [List.length_reverse]
                exact sz6 (by omega)
              · rw [upd_ne hwf.symm]
                exact s113 _ _ hf11
              · rw [upd_same, List.reverse_append, List.reverse_reverse]
              · rw [show (B ++ X).map (fun x => (x, stepL st l)) = B.map (fun x => (x, stepL st l)) ++ X.map (fun x => (x, stepL st l)) from List.map_append, List.append_assoc, List.map_append]
                refine AtL.app ?_ (kyL_at tk (pairs_kable _) (AtL.keep s113 hW11))
                rw [List.map_map]
                refine kyL_at tk ?_ hAr
                exact kableL_of fun d hd => by
                  obtain ⟨y, _, rfl⟩ := List.mem_map.mp hd
                  exact pair_kable _
              · rw [upd_ne rlw]
                exact s113 _ _ hrl11
          · rintro σ H11 ⟨ws, y5, rfl, hf11, hw11, hF11, hW11, hrl11, hiv11, s11⟩
            rw [List.length_reverse, List.take_of_length_le (by rw [List.length_reverse]; omega), List.reverse_reverse] at hW11
            refine ⟨nW (((innerB st).flatten.map fun x => (x, stepL st l)) ++ R), ?_, F ++ [(st, l)], _, fs ++ [.ref t], ws, _, _, _, rfl, hf11, hw11, hF11, hW11, ?_, ?_, rfl, s11⟩
            · rw [nW_app]
              omega
            · rw [preW_app, ← hcat]
              simp only [preW, List.flatMap_cons, List.append_assoc, List.singleton_append]
              rw [preS_inner]
              rfl
            · rw [nW_app, List.length_append, List.length_singleton]
              omega
end
end OS

/-! Sets of texts that can be gone through: {x for ..}, sorted(a set of texts). -/
namespace OS
open PySem PySem.Spec PyProof.Rows L2
def txtE (e : Int × Value) : Str := match e.2 with | .str z _ => z | _ => ""
/-- the set of the texts ks at a -/
def SetS (P : Program) (w : World) (h : Heap) (a : Addr) (ks : List Str) : Prop :=
  ∃ ob xs c tb, h.get? a = some ob ∧ ob.ExactSet ∧ ob.data = .set xs c tb ∧ (∀ e ∈ xs.toList, ∃ z tk, e.2 = .str z tk ∧ e.1 = (PySem.strKind P w).hash z) ∧ (xs.toList.map txtE).Perm ks ∧ ks.Nodup ∧
    xs.size < scanBound ∧ tb.fits xs.size = true ∧ Ris tb.place.toList ∧ (w.params.followText "set-order" = true ∨ tb.led = true)
def addK (ks : List Str) (k : Str) : List Str := if k ∈ ks then ks else ks ++ [k]
theorem addK_nd {ks : List Str} (h : ks.Nodup) (k : Str) : (addK ks k).Nodup := by
  unfold addK
  split
  · exact h
  · rename_i c
    exact List.nodup_append.mpr ⟨h, by simp, fun a ha b hb e => by rw [List.mem_singleton.mp hb] at e; exact c (e ▸ ha)⟩
theorem addK_len (ks : List Str) (k : Str) : (addK ks k).length ≤ ks.length + 1 := by
  unfold addK
  split
  · exact Nat.le_succ _
  · rw [List.length_append]
    exact Nat.le_refl _
section
variable {P : Program} {w : World} {h h' : Heap} {a : Addr} {ks : List Str}
theorem SetS.move (R : SetS P w h a ks) (k : ∀ o, h.get? a = some o → h'.get? a = some o) : SetS P w h' a ks := by
  obtain ⟨ob, xs, c, tb, go, r⟩ := R
  exact ⟨ob, xs, c, tb, k _ go, r⟩
theorem strs_elems {l : List (Int × Value)} (g : ∀ e ∈ l, ∃ z tk, e.2 = Value.str z tk ∧ e.1 = (PySem.strKind P w).hash z) : ElemsOf (PySem.strKind P w) l := fun e me => by
  obtain ⟨z, tk, e1, e2⟩ := g e me
  exact ⟨⟨z, by rw [e1]; exact strKind_is P w z tk, e2⟩, by rw [e1]; rfl⟩
theorem strs_mem {l : List (Int × Value)} (g : ∀ e ∈ l, ∃ z tk, e.2 = Value.str z tk ∧ e.1 = (PySem.strKind P w).hash z) (k : Str) : k ∈ l.map txtE ↔ ∃ e ∈ l, (PySem.strKind P w).is k e.2 = true := by
  have one : ∀ e ∈ l, (txtE e = k ↔ (PySem.strKind P w).is k e.2 = true) := fun e me => by
    obtain ⟨z, tk, e1, _⟩ := g e me
    unfold txtE
    rw [e1]
    show z = k ↔ _
    constructor
    · intro q
      rw [q]
      exact strKind_is P w k tk
    · intro q
      exact (PySem.strKind P w).inj _ _ _ (strKind_is P w z tk) q
  rw [List.mem_map]
  exact ⟨fun ⟨e, me, q⟩ => ⟨e, me, (one e me).1 q⟩, fun ⟨e, me, q⟩ => ⟨e, me, (one e me).2 q⟩⟩
theorem SetS.of (R : SetS P w h a ks) : h.SetOf (PySem.strKind P w) a (fun j => decide (j ∈ ks)) ks.length := by
  obtain ⟨ob, xs, c, tb, go, ex, dx, gd, pm, nd, sb, ft, _⟩ := R
  refine ⟨ob, xs, c, tb, go, ex, dx, strs_elems gd, fun k => ?_, sb, ft, ?_⟩
  · rw [decide_eq_true_iff, ← pm.mem_iff]
    exact strs_mem gd k
  · rw [← pm.length_eq, List.length_map, Array.length_toList]
end
section
variable {P : Program} {w : World} {A : Around} {E : Value → Shared → Prop} {s : Shared} {a : Addr} {ks : List Str}
/-- what is stored at the end of an addition, the table laid anew or not -/
theorem sets_store {gv : Bool → Sem Unit} (hgv : ∀ (b : Bool) (s₁ : Shared) (R : Unit → Shared → Prop), R () s₁ → wpAny (model P w) A (gv b) R E s₁) {ob : Obj} {xs ys : Array (Int × Value)} {c : Nat} {tb tn : SetTable} {new : List Str} (go : s.heap.get? a = some ob) (ex : ob.ExactSet) (dx : ob.data = .set xs c tb)
    (gd : ∀ e ∈ ys.toList, ∃ z tk, e.2 = Value.str z tk ∧ e.1 = (PySem.strKind P w).hash z) (pm : (ys.toList.map txtE).Perm new) (nd : new.Nodup) (sb : ys.size < scanBound) (ft : tn.fits ys.size = true) (ri : Ris tn.place.toList) (ld : w.params.followText "set-order" = true ∨ tn.led = true)
    {dummy : Bool} {R : Option Bool → Shared → Prop} (hR : ∀ h', Heap.SameBut a s.heap h' → SetS P w h' a new → R (some true) { s with heap := h' }) :
    wpAny (model P w) A (do
        storeSet a ys tn
        if (!dummy && tn.tooFull) = true then do
            gv (relayAll tn ys (SetTable.grown ys.size)).2.2
            storeSet a (relayAll tn ys (SetTable.grown ys.size)).1 (relayAll tn ys (SetTable.grown ys.size)).2.1
            pure (some true)
          else pure (some true)) R E s := by
  refine wpAny_bind (wpAny_storeSet_of go dx ?_ (fits_of_scanBound sb))
  have at1 := store_at (es' := ys) (t' := tn) go dx
  have same1 := Heap.SameBut.update s.heap a (Obj.putSet ys tn)
  by_cases full : (!dummy && tn.tooFull) = true
  · rw [if_pos full]
    have q1 := relayAll_perm tn ys (SetTable.grown ys.size)
    have q2 := relayAll_fits tn ys (SetTable.grown ys.size)
    have q3 := relayAll_ris tn ys (SetTable.grown ys.size)
    have q4 := relayAll_led tn ys (SetTable.grown ys.size)
    generalize relayAll tn ys (SetTable.grown ys.size) = laid at q1 q2 q3 q4 ⊢
    obtain ⟨zs, tz, gave⟩ := laid
    dsimp only at q1 q2 q3 q4 ⊢
    have len : zs.size = ys.size := by
      have := q1.length_eq
      rwa [Array.length_toList, Array.length_toList] at this
    refine wpAny_bind (hgv _ _ _ (wpAny_bind (wpAny_storeSet_of at1 rfl ?_ (fits_of_scanBound (by rw [len]; exact sb)))))
    refine wpAny_pure (hR _ (same1.trans (Heap.SameBut.update _ a _)) ?_)
    exact ⟨_, zs, _, tz, store_at (es' := zs) (t' := tz) at1 rfl, ex, rfl, fun e me => gd e (q1.mem_iff.mp me), (q1.map txtE).trans pm, nd, by rw [len]; exact sb, q2, q3, ld.imp id fun z => q4.trans z⟩
  · rw [if_neg full]
    exact wpAny_pure (hR _ same1 ⟨_, ys, _, tn, at1, ex, rfl, gd, pm, nd, sb, ft, ri, ld⟩)
theorem sets_hashed {k : Str} {tk : Tok} {Q : Bool → Shared → Prop} (R : SetS P w s.heap a ks) (room : ks.length + 1 < scanBound)
    (hQ : ∀ b h', Heap.SameBut a s.heap h' → SetS P w h' a (addK ks k) → Q b { s with heap := h' }) : wpAny (model P w) A (setAddHashed a (.str k tk) ((PySem.strKind P w).hash k)) Q E s := by
  obtain ⟨ob, xs, c, tb, go, ex, dx, gd, pm, nd, sb, ft, ri, ld⟩ := R
  have el := strs_elems (P := P) (w := w) gd
  have len : xs.size = ks.length := by rw [← pm.length_eq, List.length_map, Array.length_toList]
  have isk : (PySem.strKind P w).is k (.str k tk) = true := strKind_is P w k tk
  have scan : (Value.str k tk).scannable = true := rfl
  unfold setAddHashed setAddHashedIn
  refine wpAny_holding (wpAny_bind (wpAny_setState_of go dx ft ?_))
  dsimp only
  rw [byScan_of scan sb el]
  simp only [↓reduceIte]
  unfold setAddByScan
  refine wpAny_bind (wpAny_bind (wpAny_rule (wpAny_bind (wpAny_setScan_of isk go dx ft el ?_))))
  cases fd : List.findIdx? (fun e => (PySem.strKind P w).is k e.2) xs.toList with
  | some j =>
    dsimp only
    obtain ⟨lt, pj, _⟩ := List.findIdx?_eq_some_iff_getElem.mp fd
    have mk : k ∈ ks := pm.mem_iff.mp ((strs_mem gd k).mpr ⟨_, List.getElem_mem lt, pj⟩)
    refine wpAny_pure (wpAny_pure (hQ _ s.heap (Heap.SameBut.refl a s.heap) ?_))
    unfold addK
    rw [if_pos mk]
    exact ⟨ob, xs, c, tb, go, ex, dx, gd, pm, nd, sb, ft, ri, ld⟩
  | none =>
    dsimp only
    have nk : k ∉ ks := fun z => by
      obtain ⟨e, me, q⟩ := (strs_mem gd k).mp (pm.mem_iff.mpr z)
      have := List.findIdx?_eq_none_iff.mp fd e me
      rw [q] at this
      cases this
    have ek : addK ks k = ks ++ [k] := by unfold addK; rw [if_neg nk]
    have nd2 := addK_nd nd k
    rw [ek] at hQ nd2
    have q1 := layNew_perm tb xs ((PySem.strKind P w).hash k) (.str k tk)
    have q2 := layNew_fits tb xs ((PySem.strKind P w).hash k) (.str k tk)
    have q3 := layNew_ris tb xs ((PySem.strKind P w).hash k) (.str k tk) ri
    have q4 := layNew_led tb xs ((PySem.strKind P w).hash k) (.str k tk)
    generalize layNew tb xs ((PySem.strKind P w).hash k) (.str k tk) = laid at q1 q2 q3 q4 ⊢
    obtain ⟨ys, tn, dummy, gave⟩ := laid
    dsimp only at q1 q2 q3 q4 ⊢
    rw [Array.toList_push] at q1
    have gd2 : ∀ e ∈ ys.toList, ∃ z tk, e.2 = Value.str z tk ∧ e.1 = (PySem.strKind P w).hash z := fun e me => by
      rcases List.mem_append.mp (q1.mem_iff.mp me) with z | z
      · exact gd e z
      · rw [List.mem_singleton.mp z]
        exact ⟨k, tk, rfl, rfl⟩
    have pm2 : (ys.toList.map txtE).Perm (ks ++ [k]) := by
      have := q1.map txtE
      rw [List.map_append] at this
      exact this.trans (pm.append (List.Perm.refl _))
    have sb2 : ys.size < scanBound := by
      have := q1.length_eq
      rw [List.length_append, Array.length_toList, Array.length_toList, List.length_singleton] at this
      omega
    have ld2 : w.params.followText "set-order" = true ∨ tn.led = true := ld.imp id fun z => q4.trans z
    have gv : ∀ (b : Bool) {s₁ : Shared} {R : Unit → Shared → Prop}, R () s₁ → wpAny (model P w) A (match b with | true => rule "set.scan.the-table-gave-way" | false => pure ()) R E s₁ := fun b s₁ R q => by
      cases b
      · exact wpAny_pure q
      · exact wpAny_rule q
    refine wpAny_bind (gv _ ?_)
    split
    · refine wpAny_bind ?_
      rw [hashByValue_scannable 8 scan]
      refine wpAny_pure ?_
      refine sets_store ?_ go ex dx gd2 pm2 nd2 sb2 ?_ ?_ ?_ ?_
      · intro b s₁ R q
        cases b
        · exact wpAny_pure q
        · exact wpAny_rule q
      · first | exact q2 | (split <;> first | exact q2 | exact SetTable.fits_plain_off q2)
      · first | exact q3 | (split <;> exact q3)
      · first | exact ld2 | (split <;> exact ld2)
      · exact fun h' sm r => wpAny_pure (hQ _ h' sm r)
    · refine wpAny_bind (wpAny_pure ?_)
      simp only [↓reduceIte]
      refine sets_store ?_ go ex dx gd2 pm2 nd2 sb2 q2 q3 ld2 ?_
      · intro b s₁ R q
        cases b
        · exact wpAny_pure q
        · exact wpAny_rule q
      · exact fun h' sm r => wpAny_pure (hQ _ h' sm r)
end
section
variable {X : Cx}
/-- a set of texts as an object -/
def SetSO (P : Program) (w : World) (a : Addr) (ks : List Str) : HO := .ext fun h => SetS P w h a ks
theorem setSO_new {P : Program} {w : World} {H : Hp} {h : Heap} {a : Addr} {ks : List Str} (R : SetS P w h a ks) : ObjOk P w H h a (SetSO P w a ks) := by
  have q := R
  obtain ⟨ob, _, _, _, go, _⟩ := q
  exact ⟨R, ⟨ob, go⟩, fun _ _ p k => p.move k⟩
theorem setSO_get {pins : List (Addr × Obj)} {σ : L2.St} {H : Hp} {s : Shared} {a : Addr} {ks : List Str} (I : Inv X pins σ H s) (ha : H a = some (SetSO X.prog X.w a ks)) : SetS X.prog X.w s.heap a ks := (I.hok a _ ha).1
theorem setS_fresh {P : Program} {w : World} {h : Heap} : SetS P w (h.push { cls := .type "set", dict := none, data := .set #[] 0 (.fresh 0 0 (!w.params.followText "set-order")) }) h.objs.size [] := by
  refine ⟨_, #[], 0, _, Heap.get?_push_size _ rfl, ⟨rfl, rfl, rfl⟩, rfl, (fun e me => by simp at me), by simp, List.nodup_nil, by decide, rfl, List.Pairwise.nil, ?_⟩
  show _ ∨ (!w.params.followText "set-order") = true
  by_cases c : w.params.followText "set-order" = true
  · exact .inl c
  · rw [Bool.not_eq_true] at c
    rw [c]
    exact .inr rfl
theorem addS_ok {pins : List (Addr × Obj)} {σ : L2.St} {H : Hp} {s : Shared} {E : Value → Shared → Prop} {D : Addr} {ks : List Str} {k : Str} {tk : Tok} {Q : Value → Shared → Prop} (I : Inv X pins σ H s) (hD : H D = some (SetSO X.prog X.w D ks)) (room : ks.length + 1 < scanBound)
    (fin : ∀ s', Inv X pins σ (upd H D (SetSO X.prog X.w D (addK ks k))) s' → Q .none s') : wpAny (model X.prog X.w) X.A (call (.builtin "set.add") [.ref D, .str k tk]) Q E s := by
  have R := setSO_get I hD
  refine wpAny_call_entry F.slot_set_add R.of.typeIs F.entry_set_add ?_ (F.args_set_add_2 _ _)
  unfold Builtin.«set.add» Builtin.Frozenset.oneOther
  simp only [List.isEmpty_nil, bind_assoc]
  unfold Builtin.Frozenset.addrOf setAdd
  refine wpAny_bind (wpAny_pure ?_)
  try dsimp only
  refine wpAny_bind (wpAny_pure ?_)
  try dsimp only
  refine wpAny_bind (wpAny_holding (wpAny_bind ((PySem.strKind X.prog X.w).pyHash (strKind_is _ _ k tk) ?_)))
  refine sets_hashed (s := { s with toks := s.toks + 1 }) R room fun b h' sm r => ?_
  show wpAny _ _ (ret Value.none) _ _ _
  refine wpAny_pure ⟨_, rfl, fin _ ?_⟩
  have ex : ∃ u, h'.get? D = some u := by
    have q := r
    obtain ⟨ob, _, _, _, go, _⟩ := q
    exact ⟨ob, go⟩
  exact I.write (e := D) (t' := s.toks + 1) (by rw [hD]; trivial) (.inl rfl) (fun b u hb e => (sm.2 b hb).trans e) ex (setSO_new r)
end
/-! ### {x for .. in .. if ..}, x a text -/
section
variable {X : Cx}
/-- the new set at D; one turn after the other -/
def tScS (P : Program) (w : World) (wi : TI) (g : TG) (tt : TT) (te : TE) (vs : List Nat) : TE := fun σ H Q => wi σ H fun J H1 => ∀ D, H1 D = none → ∃ W : Nat → Nat → Hp → Prop, (∃ m, W 0 m (upd H1 D (SetSO P w D []))) ∧
  ∀ i m H, W i m H → (J.stop i H ∧ Q (.ref D) H) ∨ (J.go i H ∧ ∃ N : Hp → Prop, (∀ H', N H' → ∃ m', m' < m ∧ W (i + 1) m' H') ∧ ∀ x H', J.yld i H x H' → g x (wipe σ vs) H' fun σ2 H2 => wipe σ2 vs = wipe σ vs ∧
    tt σ2 H2 fun b H3 => if b = true then te σ2 H3 fun y H4 => ∃ (k : Str) (ks : List Str), y = .str k ∧ H4 D = some (SetSO P w D ks) ∧ ks.length + 1 < scanBound ∧ N (upd H4 D (SetSO P w D (addK ks k))) else N H3)
variable {elt tg iter : Expr} {ifs : List Expr} {scope : Scope} {own : List (PySem.Str × Nat)} {wi : TI} {g : TG} {tt : TT} {te : TE}
theorem pe_scS {pos : Pos} (calm : X.calm = true) (nd : X.N.Nodup) (hi : PI X tg iter wi) (ok : BlkOk X.N X.env.scope scope own)
    (hg : ∀ (s : Shared) (H : Hp) (C : Addr) (cl : List (PySem.Str × Addr)) (fp : List Addr), PG (X.blk s H scope (compEnvC scope cl C X.env) fp) tg g)
    (ht : ∀ (s : Shared) (H : Hp) (C : Addr) (cl : List (PySem.Str × Addr)) (fp : List Addr), PTs (X.blk s H scope (compEnvC scope cl C X.env) fp) ifs tt)
    (he : ∀ (s : Shared) (H : Hp) (C : Addr) (cl : List (PySem.Str × Addr)) (fp : List Addr), PE (X.blk s H scope (compEnvC scope cl C X.env) fp) elt te)
    (hs : ∀ x, foldedSetIterable iter X.env x = pure x := by intro _; rfl) : PE X (.SetComp elt [⟨tg, iter, ifs, 0⟩] scope pos) (tScS X.prog X.w wi g tt te (own.map (·.2))) := by
  refine ⟨fun pins s0 σ H0 Q I0 hw => ?_⟩
  rw [PpSet.eval_SetComp]
  have free : ∀ y ∈ scope.names, y.2 = .free → ∃ c, X.env.cells.lookup y.1 = some c := fun y hy e => (ok.free y hy e).elim (fun q => I0.ok.has _ (.inl q)) (fun q => I0.ok.has _ (.inr q))
  refine wpAny_comprehension_free (use := none) rfl hs (closure_ok free) ok.kind (fun y hy e => by rw [ok.uniq y hy, e]) (thn (hi.run pins s0 σ H0 _ I0 hw) fun v1 s1 q1 => thn q1 fun v2 sA qA => ?_)
  obtain ⟨it, fp, tn, J, HA, rfl, IA, T, stA, fA, qA⟩ := qA
  refine PpSet.newSet_ok (newEnv_comp ?_)
  obtain ⟨D, eD⟩ : ∃ D, D = sA.heap.objs.size := ⟨_, rfl⟩
  rw [← eD]
  have nD : HA D = none := IA.hok.fresh (Nat.le_of_eq eD.symm)
  obtain ⟨W, ⟨m0, w0⟩, turn⟩ := qA D nD
  -- the new set
  obtain ⟨sB, eB⟩ : ∃ sB : Shared, sB = { sA with heap := sA.heap.push { cls := .type "set", dict := none, data := .set #[] 0 (.fresh 0 0 (!X.w.params.followText "set-order")) } } := ⟨_, rfl⟩
  have hB : sB.heap = sA.heap.push { cls := .type "set", dict := none, data := .set #[] 0 (.fresh 0 0 (!X.w.params.followText "set-order")) } := by rw [eB]
  have IB : Inv X pins σ (upd HA D (SetSO X.prog X.w D [])) sB := by
    rw [eB]
    refine IA.laid (t' := sA.toks) (fun b o e => Heap.get?_push_of_some _ e) (Nat.le_of_eq eD.symm) ?_
    rw [eD]
    exact setSO_new setS_fresh
  have below : ∀ b ∈ fp, b < sA.heap.objs.size := fun b hb => by
    obtain ⟨o, e, _⟩ := T.obj _ _ stA b hb
    exact Heap.lt_size e
  have fB : ∀ b ∈ fp, FpOk X pins (upd HA D (SetSO X.prog X.w D [])) b ∧ b < sB.heap.objs.size := fun b hb => by
    have lt := below b hb
    refine ⟨⟨?_, (fA b hb).2⟩, ?_⟩
    · rw [upd_ne (show b ≠ D by rw [eD]; exact Nat.ne_of_lt lt)]
      exact (fA b hb).1
    · rw [hB, Heap.size_push]
      exact Nat.lt_succ_of_lt lt
  have stB : tn 0 sB.heap := T.keep _ _ _ stA fun b _ o e => by rw [hB]; exact Heap.get?_push_of_some _ e
  obtain ⟨HB, eHB⟩ : ∃ HB, HB = upd HA D (SetSO X.prog X.w D []) := ⟨_, rfl⟩
  rw [← eHB] at IB fB w0
  have IC := block_start IB ok nd fB
  have pg := hg sB HB sB.heap.objs.size (cellsFrom (sB.heap.objs.size + 1) scope.names (cloFrom X.env.cells scope.names [])) fp
  have pt := ht sB HB sB.heap.objs.size (cellsFrom (sB.heap.objs.size + 1) scope.names (cloFrom X.env.cells scope.names [])) fp
  have pe := he sB HB sB.heap.objs.size (cellsFrom (sB.heap.objs.size + 1) scope.names (cloFrom X.env.cells scope.names [])) fp
  have nB : ∀ b ∈ fp, HB b = none := fun b hb => (fB b hb).1.1
  rw [show ({ heap := sA.heap.push { cls := .type "set", dict := none, data := .set #[] 0 (.fresh 0 0 (!X.w.params.followText "set-order")) }, gens := sA.gens, drawn := sA.drawn, toks := sA.toks, os := sA.os } : Shared) = sB from eB.symm]
  obtain ⟨ce, ece⟩ : ∃ ce, ce = compEnvC scope (cellsFrom (sB.heap.objs.size + 1) scope.names (cloFrom X.env.cells scope.names [])) sB.heap.objs.size X.env := ⟨_, rfl⟩
  show codeAny _ _ (.compStart (.SetComp elt [⟨tg, iter, ifs, 0⟩] scope pos) 0 (.ref it) (.ref D) (compEnvC scope (cellsFrom (sB.heap.objs.size + 1) scope.names (cloFrom X.env.cells scope.names [])) sB.heap.objs.size X.env)) (compPost (model X.prog X.w) X.A X.xe none (EP X pins σ Q) (.ref D) sB.heap.objs.size) { sB with heap := pushCells (sB.heap.push { cls := .type "dict", data := .dict #[] }) scope.names }
  rw [← ece] at IC pg pt pe ⊢
  have lce : ce.locals = sB.heap.objs.size := by rw [ece]; rfl
  obtain ⟨sC, eC⟩ : ∃ sC : Shared, sC = { sB with heap := pushCells (sB.heap.push { cls := .type "dict", data := .dict #[] }) scope.names } := ⟨_, rfl⟩
  rw [← eC] at IC ⊢
  have stC : tn 0 sC.heap := T.keep _ _ _ stB fun b _ o e => by rw [eC]; exact pushCells_keeps _ _ _ _ (Heap.get?_push_of_some _ e)
  -- the iterator's own objects, in the block
  have fps : ∀ {σ' : L2.St} {H' : Hp} {s' : Shared}, Inv (X.blk sB HB scope ce fp) [] σ' H' s' → (∀ b ∈ fp, H' b = none) → ∀ b ∈ fp, FpOk (X.blk sB HB scope ce fp) [] H' b := fun {σ' H' s'} I' hn b hb =>
    ⟨hn b hb, (I'.ok.exf b hb).1, I'.ok.exfs b hb, .inl hb, fun x c e => (I'.ok.exf b hb).2 x c e, fun p hp => by cases (show p ∈ ([] : List (Addr × Obj)) ++ [] from hp)⟩
  have run : codeAny (model X.prog X.w) X.A (.compLoop (.SetComp elt [⟨tg, iter, ifs, 0⟩] scope pos) 0 (.ref it) (.ref D) ce) (compPost (model X.prog X.w) X.A X.xe none (EP X pins σ Q) (.ref D) sB.heap.objs.size) sC := by
    refine PpSet.compLoopS_any (fun n s' => ∃ i H', Inv (X.blk sB HB scope ce fp) [] (wipe σ (own.map (·.2))) H' s' ∧ tn i s'.heap ∧ (∀ b ∈ fp, H' b = none) ∧ W i n H') ?_ m0 ⟨0, HB, IC, stC, nB, w0⟩
    rintro n s5 ⟨i, H5, I5, st5, n5, w5⟩
    rcases turn i n H5 w5 with ⟨stop, fin⟩ | ⟨go, N, hN, step⟩
    · refine thnF (T.done (X.blk sB HB scope ce fp) rfl rfl rfl calm i [] s5 _ H5 (fun _ _ => False) I5 (fps I5 n5) st5 stop) fun r s6 ⟨er, I6⟩ => ?_
      subst er
      have back : Inv X pins σ H5 s6 := IB.call' (ch := fp) I6.os I6.base I6.hok I6.bare fun b hb => ⟨(fB b hb).1.2.2.2.1, (fB b hb).1.2.1, (fB b hb).1.2.2.2.2.1, (fB b hb).1.2.2.2.2.2⟩
      have nC : H5 sB.heap.objs.size = none := by
        have z : H5 ce.locals = none := I6.free
        rwa [lce] at z
      obtain ⟨mm, ns, _⟩ := I6.loc
      have ns : s6.heap.Ns ce.locals mm := ns
      rw [lce] at ns
      obtain ⟨f0, f1, f2, f3, f4, f5⟩ := IB.fpOk (Nat.le_refl _) nC
      exact ⟨mm, ns, fun h'' sb => ⟨.ref D, H5, back.turned (t' := s6.toks) (fun b o hb e => (sb.2 b hb).trans e) nC f1 f3 f4 f5, rfl, fin⟩⟩
    · refine thnF (T.item (X.blk sB HB scope ce fp) rfl rfl rfl calm i [] s5 _ H5 (fun _ _ => False) I5 (fps I5 n5) st5 go) fun r s6 ⟨u, er, q6⟩ => ?_
      subst er
      refine thnF q6 fun _ s7 ⟨x, H7, I7, r7, y7, st7, n7⟩ => ?_
      have I7p := I7.pinned (fps I7 n7) (T.obj _ _ st7)
      refine thnF (pg.run _ s7 _ H7 x u _ I7p r7 (step x H7 y7)) fun _ s8 ⟨σ8, H8, I8, e8, q8⟩ => ?_
      refine thnF (pt.run _ s8 σ8 H8 _ I8 q8) fun b s9 ⟨H9, I9, q9⟩ => ?_
      have next : ∀ {s' : Shared} {H' : Hp}, Inv (X.blk sB HB scope ce fp) ([] ++ pinsAt fp s7.heap) σ8 H' s' → N H' → ∃ m, m < n ∧ ∃ i H', Inv (X.blk sB HB scope ce fp) [] (wipe σ (own.map (·.2))) H' s' ∧ tn i s'.heap ∧ (∀ b ∈ fp, H' b = none) ∧ W i m H' := fun {s' H'} I' nx => by
        obtain ⟨m', lt, w'⟩ := hN H' nx
        have stay : ∀ b ∈ fp, ∀ o, s7.heap.get? b = some o → s'.heap.get? b = some o ∧ H' b = none := fun b hb o e => by
          have z := I'.pin (b, o) (List.mem_append_right _ (List.mem_append_right _ (mem_pinsAt hb e)))
          exact ⟨z.1, z.2.1⟩
        have len : (wipe σ (own.map (·.2))).length = σ8.length := by rw [← e8, wipe_length]
        refine ⟨m', lt, i + 1, H', (I'.unpinned (pins := [])).weak len (fun j v e => (wipe_some (by rw [e8]; exact e)).1), T.keep _ _ _ st7 fun b hb o e => (stay b hb o e).1, fun b hb => ?_, w'⟩
        obtain ⟨o, e, _⟩ := T.obj _ _ st7 b hb
        exact (stay b hb o e).2
      cases b with
      | false =>
        simp only [Bool.false_eq_true, if_false] at q9 ⊢
        exact next I9 q9
      | true =>
        simp only [if_true] at q9 ⊢
        refine thnF (pe.run _ s9 σ8 H9 _ I9 q9) fun z sT ⟨yv, HT, IT, rT, k, ks, ey, hDT, room, nx⟩ => ?_
        subst ey
        obtain ⟨tk, rfl⟩ := rT
        exact addS_ok (X := X.blk sB HB scope ce fp) IT hDT room fun s11 I11 => next I11 nx
  exact PpSet.codeAny_compStart_set run (T.self X.A 0 _ _ _ stC run)
end
/-! ### sorted(a set of texts), len(a set of texts) -/
section
variable {X : Cx}
theorem txt_out {P : Program} {w : World} {l : List (Int × Value)} (gd : ∀ e ∈ l, ∃ z tk, e.2 = Value.str z tk ∧ e.1 = (PySem.strKind P w).hash z) {out : List Value} (pm : out.Perm (l.map (·.2))) {ks : List Str} (pk : (l.map txtE).Perm ks) :
    ∃ ss : List Str, StrsAre out ss ∧ ss.Perm ks := by
  have all : ∀ v ∈ out, ∃ x t, v = .str x t := fun v mv => by
    obtain ⟨e, me, rfl⟩ := List.mem_map.mp (pm.mem_iff.mp mv)
    obtain ⟨z, tk, e1, _⟩ := gd e me
    exact ⟨z, tk, e1⟩
  refine ⟨_, strsAre_map out all, (pm.map strOf).trans ?_⟩
  rw [List.map_map]
  have e : l.map (strOf ∘ fun x => x.2) = l.map txtE := List.map_congr_left fun e me => by
    obtain ⟨z, tk, e1, _⟩ := gd e me
    show strOf e.2 = txtE e
    unfold txtE
    rw [e1]
    rfl
  rw [e]
  exact pk
theorem cr_sortedSS (calm : X.calm = true) : CallR X (.builtin "sorted") (fun xs H Q => ∃ (a : Addr) (ks : List Str), xs = [.ref a] ∧ H a = some (SetSO X.prog X.w a ks) ∧ ks.length < 64 ∧
    ∀ (ys : List Str) (p : Addr), ys.Perm ks → sortedS ys = true → H p = none → Q (.ref p) (upd H p (.lst (ys.map V.str)))) := by
  intro pins s σ H vs us Q I r hq
  obtain ⟨a, ks, rfl, ha, few, q⟩ := hq
  obtain ⟨ob, xs, c, tb, go, ex, dx, gd, pm, nd, sb, ft, ri, ld⟩ := setSO_get I ha
  rw [Vals.ref1 r]
  refine Calls.call_function_entry kind_sorted plain_sorted entry_sorted (args_sorted1 _) ?_
  unfold Builtin.«sorted»
  refine wpAny_bind (m := checkCount "sorted" 1 1 _) (wpAny_pure ?_)
  refine wpAny_bind (collect_set (A := X.A.in1) (I.ok.hd calm) ⟨ob, go, ex.1, dx⟩ ft sb ri ld fun s1 out keep size g1 o1 pm1 => ?_)
  obtain ⟨ss, hS, ps⟩ := txt_out gd pm1 pm
  have lo : out.length = ks.length := by rw [← ps.length_eq, StrsAre.length hS]
  refine wpAny_bind (wpAny_newList ?_ (by rw [lo, sizeLine_eq]; omega))
  have hoL : (s1.heap.push (seqObj "list" out.toArray 0)).get? s1.heap.objs.size = some (seqObj "list" out.toArray 0) := Heap.get?_push_size _ rfl
  refine wpAny_bind (wpAny_holding (wpAny_call_entry slot_list_sort ⟨_, hoL, rfl⟩ entry_list_sort (list_sort_treeK strKind_oneLt hoL hS.keysOf (fun v₁ v₂ rest e => keyKind_strs (by rw [← e]; exact hS)) (by rw [lo]; exact few) fun st' a1 a2 => ⟨_, rfl, ?_⟩) (args_list_sort _)))
  obtain ⟨ys, h1, h2, h3⟩ := sorted_out_str hS a1 a2
  obtain ⟨cc, hc⟩ := sortedHeap_at (vs := out) (out := (arrOf st').map (·.2)) hoL
  have new : H s1.heap.objs.size = none := I.hok.fresh size
  have kp : ∀ b o, s.heap.get? b = some o → (sortedHeap (s1.heap.push (seqObj "list" out.toArray 0)) s1.heap.objs.size out ((arrOf st').map (·.2))).get? b = some o := fun b o e => by
    have z := keep b o e
    have lt := Heap.lt_size z
    rw [sortedHeap_old (Nat.ne_of_lt lt) (by rw [size_push']; exact Nat.lt_succ_of_lt lt)]
    exact Heap.get?_push_of_some _ z
  have small : (ys.map V.str).length ≤ sizeLine := by rw [List.length_map, (h2.trans ps).length_eq, sizeLine_eq]; omega
  have J : Inv X pins σ (upd H s1.heap.objs.size (.lst (ys.map V.str))) { s with heap := sortedHeap (s1.heap.push (seqObj "list" out.toArray 0)) s1.heap.objs.size out ((arrOf st').map (·.2)), gens := s1.gens, drawn := s1.drawn, toks := s1.toks } :=
    I.call (ch := []) (Un.laid kp size new) (I.hok.laid kp size ⟨small, _, cc, vals_of_strs h1, hc⟩) (by rw [g1]; exact I.bare) (fun _ z => nomatch z)
  refine wpAny_pure ⟨_, rfl, .ref _, _, ?_, rfl, q ys _ (h2.trans ps) h3 new⟩
  have e : ({ s1 with heap := sortedHeap (s1.heap.push (seqObj "list" out.toArray 0)) s1.heap.objs.size out ((arrOf st').map (·.2)) } : Shared) = { s with heap := sortedHeap (s1.heap.push (seqObj "list" out.toArray 0)) s1.heap.objs.size out ((arrOf st').map (·.2)), gens := s1.gens, drawn := s1.drawn, toks := s1.toks } := by
    cases s1
    cases s
    cases o1
    rfl
  rw [e] <;> exact J
end
end OS

/-! set(xs) and len(set(xs)) for lists and tuples, whatever kind of keys. -/
namespace OS
open PySem PySem.Spec PyProof.Rows L2
theorem firsts_any {κ : Type} [DecidableEq κ] [BEq κ] [LawfulBEq κ] (k x : κ) (l : List κ) : ((firsts [] (l ++ [x])).contains k) = ((firsts [] l).contains k || decide (k = x)) ∧ (firsts [] (l ++ [x])).length = if (firsts [] l).contains x then (firsts [] l).length else (firsts [] l).length + 1 := by
  have sn : ∀ (l acc : List κ), (x ∈ firsts acc l → firsts acc (l ++ [x]) = firsts acc l) ∧ (¬ x ∈ firsts acc l → firsts acc (l ++ [x]) = firsts acc l ++ [x]) := by
    intro l
    induction l with
    | nil => exact fun acc => ⟨fun h => if_pos h, fun h => if_neg h⟩
    | cons y r ih => exact fun acc => ih _
  by_cases c : x ∈ firsts [] l
  · rw [(sn l []).1 c, if_pos (List.contains_iff_mem.mpr c)]
    refine ⟨?_, rfl⟩
    by_cases e : k = x
    · subst e
      rw [List.contains_iff_mem.mpr c]
      rfl
    · rw [decide_eq_false e, Bool.or_false]
  · have c' : (firsts [] l).contains x = false := by
      cases q : (firsts [] l).contains x with
      | false => rfl
      | true => exact absurd (List.contains_iff_mem.mp q) c
    rw [(sn l []).2 c, c', List.length_append]
    refine ⟨?_, rfl⟩
    by_cases e : k = x
    · subst e
      simp
    · simp [e]
section
variable {prog : Program} {w : World} {κ : Type} [DecidableEq κ] [BEq κ] [LawfulBEq κ] (knd : PySem.KeyKind prog w κ)
theorem set_loop {A : Around} {R : Result → Shared → Prop} {I : Addr} {fp wr : List Addr} {G : Array GenState → Array GenState → Prop} {n : Nat} {Pv : Nat → Value → Prop} {St : Nat → Shared → Prop} (W : WalksS prog w A.in1 I fp wr G n Pv St) (S : Addr) (hSf : S ∉ fp)
    (ks : List κ) (hn : ks.length = n) (hval : ∀ i v, Pv i v → ∃ k, ks[i]? = some k ∧ knd.is k v = true ∧ v.scannable = true) (hb : n + 1 < scanBound) :
    ∀ (j i : Nat) (s : Shared), n - i = j → i ≤ n → St i s →
      s.heap.SetOf knd S (fun k' => (firsts [] (ks.take i)).contains k') (firsts [] (ks.take i)).length →
      (∀ s', Moved (S :: wr) G s s' → s'.heap.SetOf knd S (fun k' => (firsts [] ks).contains k') (firsts [] ks).length → R (.ok (.ret .none)) s') →
      codeAny (model prog w) A (.builtin "set.update.loop" ⟨[.ref S, .ref I], []⟩) R s := by
  have hSw : S ∉ wr := fun h => hSf (W.sub _ h)
  have hsub : ∀ b ∈ wr, b ∈ S :: wr := fun b hb => List.mem_cons_of_mem _ hb
  intro j
  induction j with
  | zero =>
    intro i s hk hi hst hS hR
    have hin : i = n := by omega
    subst hin
    refine codeAny_builtin PyProof.Rows.F.entry_set_update_loop ?_
    rw [Around.under_plainId PyProof.Rows.F.plain_set_update_loop _]
    show wpAny _ A.in1 (pyNext (.ref I) >>= _) _ _ s
    refine wpAny_bind (W.done s _ _ hst fun s' hm => ?_)
    show wpAny _ A.in1 (ret Value.none) _ _ s'
    refine wpAny_pure (hR s' (hm.mono hsub) ?_)
    rw [← hn, List.take_length] at hS
    obtain ⟨o, es, ep, t, ho, rest⟩ := hS
    exact ⟨o, es, ep, t, hm.heap S _ hSw ho, rest⟩
  | succ j ih =>
    intro i s hk hi hst hS hR
    have hlt : i < n := by omega
    refine codeAny_builtin PyProof.Rows.F.entry_set_update_loop ?_
    rw [Around.under_plainId PyProof.Rows.F.plain_set_update_loop _]
    show wpAny _ A.in1 (pyNext (.ref I) >>= _) _ _ s
    refine wpAny_bind (W.item i s _ _ hlt hst fun v s' hP hst' hm => ?_)
    obtain ⟨k, ek, hk2, hsc⟩ := hval i v hP
    have hS' : s'.heap.SetOf knd S (fun k' => (firsts [] (ks.take i)).contains k') (firsts [] (ks.take i)).length := by
      obtain ⟨o, es, ep, tb, ho, rest⟩ := hS
      exact ⟨o, es, ep, tb, hm.heap S _ hSw ho, rest⟩
    show wpAny _ A.in1 (holding [v] (setAdd S v) >>= _) _ _ s'
    refine wpAny_bind (wpAny_holding ?_)
    unfold setAdd
    refine wpAny_holding ?_
    refine wpAny_bind (knd.pyHash (k := k) hk2 ?_)
    have hroom : (firsts [] (ks.take i)).length + 1 < scanBound := by
      have := firsts_len (ks.take i) []
      rw [List.length_nil, List.length_take] at this
      omega
    refine wpAny_setAddHashed_of (knd := knd) (s := { s' with toks := s'.toks + 1 }) hk2 hsc hS' hroom fun h' hsb hS2 => ?_
    have et : ks.take (i + 1) = ks.take i ++ [k] := by rw [List.take_add_one, ek]; rfl
    have hSi : h'.SetOf knd S (fun k' => (firsts [] (ks.take (i + 1))).contains k') (firsts [] (ks.take (i + 1))).length := by
      refine PyProof.Rows.SetOf_congr hS2 (fun k' => ?_) ?_
      · rw [et, (firsts_any k' k (ks.take i)).1]
      · rw [et, (firsts_any k k (ks.take i)).2]
    refine wpAny_pure ⟨plainId_quiet PyProof.Rows.F.plain_set_update_loop _, ih (i + 1) _ (by omega) hlt (W.frame _ s' _ _ hst' (Nat.le_succ _) fun b hb o e => ?_) hSi fun s'' hm'' hS'' => ?_⟩
    · rw [hsb.2 b (fun h : b = S => hSf (by rw [← h]; exact hb))]
      exact e
    · refine hR s'' (Moved.trans W.gtrans ((hm.mono hsub).then_heap (Nat.le_succ _) fun b o hb e => ?_) hm'') hS''
      rw [hsb.2 b (fun h : b = S => hb (by rw [h]; exact List.mem_cons_self))]
      exact e
end
end OS

/-! set(xs) of texts, len(set(xs)). -/
namespace OS
open PySem PySem.Spec PyProof.Rows L2
section
variable {prog : Program} {w : World} {A : Around} {E : Value → Shared → Prop} {s : Shared}
set_option maxHeartbeats 3200000 in
theorem set_list {l : Addr} {its : Array Value} {zs : List Str} {Q : Value → Shared → Prop} (cold : A.handled = none) (at_ : s.heap.IsList l its) (txt : StrsAre its.toList zs) (room : zs.length + 1 < scanBound)
    (fin : ∀ (h' : Heap) (tk : Nat), h'.SetOf (PySem.strKind prog w) s.heap.objs.size (fun k => (firsts [] zs).contains k) (firsts [] zs).length → (∀ b o, b < s.heap.objs.size → s.heap.get? b = some o → h'.get? b = some o) → Q (.ref s.heap.objs.size) { s with heap := h', toks := tk }) :
    wpAny (model prog w) A (call (.type "set") [.ref l]) Q E s := by
  obtain ⟨_, _, hmro⟩ := PySem.F.called_set.mro
  have f1 := PySem.F.called_set.made
  have f2 := PySem.F.called_set.sub
  have f3 := PySem.F.called_set.notType
  have f4 := PySem.F.called_set.canCreate
  have f5 := PySem.F.typeCall_set_1 (.ref l)
  have f6 := PySem.F.called_set.init.lookup
  have f7 := PySem.F.called_set.init.bind (.ref s.heap.objs.size)
  refine wpAny_call (codeAny_of_tree ?_)
  change wpAny _ _ (callAny (.type "set") _) _ _ _
  refine wpAny_pure (And.intro (Code.quiet_builtin _ (by decide +kernel)) (codeAny_builtin PySem.F.entry_type_call ?_))
  rw [Around.under_plain (weight_type_call_type "set" [.ref l] []) rfl]
  repeat any_goals first | assumption | wp_step
  refine codeAny_mono (code_set_new_1 (.ref l) (E := E) (Q₁ := fun v s₁ => ∃ led : Bool, v = .ref s.heap.objs.size ∧ s₁ = { s with heap := s.heap.push { cls := .type "set", dict := none, data := .set #[] 0 (.fresh 0 0 led) } }) fun led => ⟨led, rfl, rfl⟩) fun r s₁ got => ?_
  match r, got with
  | .error e, got => exact got
  | .ok .next, got => exact got.elim
  | .ok .brk, got => exact got.elim
  | .ok .cont, got => exact got.elim
  | .ok (.ret v), ⟨led, ev, es⟩ =>
    subst ev es
    obtain ⟨h1, eh1⟩ : ∃ h1, h1 = s.heap.push { cls := .type "set", dict := none, data := .set #[] 0 (.fresh 0 0 led) } := ⟨_, rfl⟩
    have zh1 : h1.objs.size = s.heap.objs.size + 1 := by rw [eh1, Heap.size_push]
    have old : ∀ b o, s.heap.get? b = some o → h1.get? b = some o := fun b o e => by rw [eh1]; exact Heap.get?_push_of_some _ e
    have new : h1.get? s.heap.objs.size = some { cls := .type "set", dict := none, data := .set #[] 0 (.fresh 0 0 led) } := by rw [eh1]; exact Heap.get?_push_size _ rfl
    rw [← eh1]
    have ty : Shared.TypeIs { s with heap := h1 } (.ref s.heap.objs.size) "set" := ⟨_, new, rfl⟩
    repeat any_goals first | assumption | wp_step
    refine codeAny_mono (codeAny_call_builtin (R := wants (fun r s₂ => r = .none ∧ ∃ h' tk, s₂ = { s with heap := h', toks := tk } ∧ h'.SetOf (PySem.strKind prog w) s.heap.objs.size (fun k => (firsts [] zs).contains k) (firsts [] zs).length ∧
      (∀ b o, b < s.heap.objs.size → s.heap.get? b = some o → h'.get? b = some o)) E) PySem.F.called_set.init.plain PySem.F.entry_set_init (check_set_init_1 ty ?_)) fun r₂ s₂ got₂ => ?_
    · have lS : l < s.heap.objs.size := by
        obtain ⟨_, e, _⟩ := id at_
        exact Heap.lt_size e
      obtain ⟨⟨ocls, odict, odata, oslots⟩, e1, e2, nl, e3⟩ := at_
      simp only at e2 e3
      subst e2 e3
      have e4 := old _ _ e1
      have at1 : h1.IsList l its := ⟨_, e4, rfl, nl, rfl⟩
      have g1 := PySem.F.sub_list_set
      have g2 := PySem.F.sub_list_frozenset
      have g3 : (Value.type "list" == Value.type "dict") = false := by decide
      unfold Builtin.«set.__init__» noKeywords Builtin.Frozenset.updateFrom
      generalize hPI : pyIter = PI
      wp_walk
      subst hPI
      refine wpAny_pyIter_list at1 (wpAny_bind (wpAny_runValue ?_))
      have cold3 : A.in1.in1.in1.handled = none := by simp [cold]
      have lne : l ≠ h1.objs.size := Nat.ne_of_lt (by rw [zh1]; exact Nat.lt_succ_of_lt lS)
      have Sne : s.heap.objs.size ∉ [h1.objs.size, l] := by
        rw [zh1]
        simp only [List.mem_cons, List.not_mem_nil, or_false, not_or]
        exact ⟨Nat.ne_of_lt (Nat.lt_succ_self _), Nat.ne_of_gt lS⟩
      have len : zs.length = its.size := by rw [← StrsAre.len_eq txt, Array.length_toList]
      have val : ∀ (i : Nat) (v : Value), its[i]? = some v → ∃ k, zs[i]? = some k ∧ (PySem.strKind prog w).is k v = true ∧ v.scannable = true := fun i v hv => by
        obtain ⟨t, e⟩ := SS.strs_at txt i v (by rw [Array.getElem?_toList]; exact hv)
        have lt : i < zs.length := by rw [len]; exact (Array.getElem?_eq_some_iff.mp hv).1
        refine ⟨zs[i], List.getElem?_eq_getElem lt, ?_, by rw [e]; rfl⟩
        rw [e, List.getD_eq_getElem?_getD, List.getElem?_eq_getElem lt]
        exact strKind_is _ _ _ _
      refine set_loop (PySem.strKind prog w) ((Walks.list cold3 _ l lne its).toS) s.heap.objs.size Sne zs len val (by omega) (its.size - 0) 0 _ (by omega) (Nat.zero_le _) ⟨⟨_, Heap.get?_push_size _ rfl, rfl, rfl⟩, at1.push _⟩ ?_ ?_
      · have e5 : (h1.push { cls := .type "list_iterator", data := .fields #[.ref l, .int 0 0] }).get? s.heap.objs.size = some { cls := .type "set", dict := none, data := .set #[] 0 (.fresh 0 0 led) } := Heap.get?_push_of_some _ new
        exact PyProof.Rows.SetOf_congr ((PyProof.Rows.setObjOf_fresh (knd := PySem.strKind prog w) led).setOf e5 (by unfold scanBound; omega)) (fun _ => rfl) rfl
      · intro s' mv sets
        obtain ⟨h', g', d', tk', os'⟩ := s'
        obtain rfl : g' = s.gens := mv.gens
        obtain rfl : d' = s.drawn := mv.drawn
        obtain rfl : os' = s.os := mv.os
        refine wpAny_pure (?_ : wpAny _ _ (ret Value.none) _ _ _)
        refine wpAny_pure ⟨rfl, h', tk', rfl, sets, fun b o hb e => ?_⟩
        refine mv.heap b o ?_ (Heap.get?_push_of_some _ (old b o e))
        simp only [List.mem_cons, List.not_mem_nil, or_false, not_or]
        exact ⟨Nat.ne_of_lt hb, Nat.ne_of_lt (by rw [zh1]; exact Nat.lt_succ_of_lt hb)⟩
    · match r₂, got₂ with
      | .error e, got₂ => exact got₂
      | .ok .next, got₂ => exact got₂.elim
      | .ok .brk, got₂ => exact got₂.elim
      | .ok .cont, got₂ => exact got₂.elim
      | .ok (.ret v), ⟨ev, h', tk, es, sets, kp⟩ =>
        subst ev es
        repeat any_goals first | assumption | wp_step
        exact fin _ _ sets kp
set_option maxHeartbeats 3200000 in
theorem set_tuple {l : Addr} {its : Array Value} {zs : List Str} {Q : Value → Shared → Prop} (cold : A.handled = none) (at_ : s.heap.IsTuple l its) (txt : StrsAre its.toList zs) (room : zs.length + 1 < scanBound)
    (fin : ∀ (h' : Heap) (tk : Nat), h'.SetOf (PySem.strKind prog w) s.heap.objs.size (fun k => (firsts [] zs).contains k) (firsts [] zs).length → (∀ b o, b < s.heap.objs.size → s.heap.get? b = some o → h'.get? b = some o) → Q (.ref s.heap.objs.size) { s with heap := h', toks := tk }) :
    wpAny (model prog w) A (call (.type "set") [.ref l]) Q E s := by
  obtain ⟨_, _, hmro⟩ := PySem.F.called_set.mro
  have f1 := PySem.F.called_set.made
  have f2 := PySem.F.called_set.sub
  have f3 := PySem.F.called_set.notType
  have f4 := PySem.F.called_set.canCreate
  have f5 := PySem.F.typeCall_set_1 (.ref l)
  have f6 := PySem.F.called_set.init.lookup
  have f7 := PySem.F.called_set.init.bind (.ref s.heap.objs.size)
  refine wpAny_call (codeAny_of_tree ?_)
  change wpAny _ _ (callAny (.type "set") _) _ _ _
  refine wpAny_pure (And.intro (Code.quiet_builtin _ (by decide +kernel)) (codeAny_builtin PySem.F.entry_type_call ?_))
  rw [Around.under_plain (weight_type_call_type "set" [.ref l] []) rfl]
  repeat any_goals first | assumption | wp_step
  refine codeAny_mono (code_set_new_1 (.ref l) (E := E) (Q₁ := fun v s₁ => ∃ led : Bool, v = .ref s.heap.objs.size ∧ s₁ = { s with heap := s.heap.push { cls := .type "set", dict := none, data := .set #[] 0 (.fresh 0 0 led) } }) fun led => ⟨led, rfl, rfl⟩) fun r s₁ got => ?_
  match r, got with
  | .error e, got => exact got
  | .ok .next, got => exact got.elim
  | .ok .brk, got => exact got.elim
  | .ok .cont, got => exact got.elim
  | .ok (.ret v), ⟨led, ev, es⟩ =>
    subst ev es
    obtain ⟨h1, eh1⟩ : ∃ h1, h1 = s.heap.push { cls := .type "set", dict := none, data := .set #[] 0 (.fresh 0 0 led) } := ⟨_, rfl⟩
    have zh1 : h1.objs.size = s.heap.objs.size + 1 := by rw [eh1, Heap.size_push]
    have old : ∀ b o, s.heap.get? b = some o → h1.get? b = some o := fun b o e => by rw [eh1]; exact Heap.get?_push_of_some _ e
    have new : h1.get? s.heap.objs.size = some { cls := .type "set", dict := none, data := .set #[] 0 (.fresh 0 0 led) } := by rw [eh1]; exact Heap.get?_push_size _ rfl
    rw [← eh1]
    have ty : Shared.TypeIs { s with heap := h1 } (.ref s.heap.objs.size) "set" := ⟨_, new, rfl⟩
    repeat any_goals first | assumption | wp_step
    refine codeAny_mono (codeAny_call_builtin (R := wants (fun r s₂ => r = .none ∧ ∃ h' tk, s₂ = { s with heap := h', toks := tk } ∧ h'.SetOf (PySem.strKind prog w) s.heap.objs.size (fun k => (firsts [] zs).contains k) (firsts [] zs).length ∧
      (∀ b o, b < s.heap.objs.size → s.heap.get? b = some o → h'.get? b = some o)) E) PySem.F.called_set.init.plain PySem.F.entry_set_init (check_set_init_1 ty ?_)) fun r₂ s₂ got₂ => ?_
    · have lS : l < s.heap.objs.size := by
        obtain ⟨_, e, _⟩ := id at_
        exact Heap.lt_size e
      obtain ⟨⟨ocls, odict, odata, oslots⟩, e1, e2, nl, e3⟩ := at_
      simp only at e2 e3
      subst e2 e3
      have e4 := old _ _ e1
      have at1 : h1.IsTuple l its := ⟨_, e4, rfl, nl, rfl⟩
      have g1 := PySem.F.sub_tuple_set
      have g2 := PySem.F.sub_tuple_frozenset
      have g3 : (Value.type "tuple" == Value.type "dict") = false := by decide
      unfold Builtin.«set.__init__» noKeywords Builtin.Frozenset.updateFrom
      generalize hPI : pyIter = PI
      wp_walk
      subst hPI
      refine wpAny_pyIter_tuple at1 (wpAny_bind (wpAny_runValue ?_))
      have cold3 : A.in1.in1.in1.handled = none := by simp [cold]
      have lne : l ≠ h1.objs.size := Nat.ne_of_lt (by rw [zh1]; exact Nat.lt_succ_of_lt lS)
      have Sne : s.heap.objs.size ∉ [h1.objs.size, l] := by
        rw [zh1]
        simp only [List.mem_cons, List.not_mem_nil, or_false, not_or]
        exact ⟨Nat.ne_of_lt (Nat.lt_succ_self _), Nat.ne_of_gt lS⟩
      have len : zs.length = its.size := by rw [← StrsAre.len_eq txt, Array.length_toList]
      have val : ∀ (i : Nat) (v : Value), its[i]? = some v → ∃ k, zs[i]? = some k ∧ (PySem.strKind prog w).is k v = true ∧ v.scannable = true := fun i v hv => by
        obtain ⟨t, e⟩ := SS.strs_at txt i v (by rw [Array.getElem?_toList]; exact hv)
        have lt : i < zs.length := by rw [len]; exact (Array.getElem?_eq_some_iff.mp hv).1
        refine ⟨zs[i], List.getElem?_eq_getElem lt, ?_, by rw [e]; rfl⟩
        rw [e, List.getD_eq_getElem?_getD, List.getElem?_eq_getElem lt]
        exact strKind_is _ _ _ _
      refine set_loop (PySem.strKind prog w) ((Walks.tuple cold3 _ l lne its).toS) s.heap.objs.size Sne zs len val (by omega) (its.size - 0) 0 _ (by omega) (Nat.zero_le _) ⟨⟨_, Heap.get?_push_size _ rfl, rfl, rfl⟩, at1.push _⟩ ?_ ?_
      · have e5 : (h1.push { cls := .type "tuple_iterator", data := .fields #[.ref l, .int 0 0] }).get? s.heap.objs.size = some { cls := .type "set", dict := none, data := .set #[] 0 (.fresh 0 0 led) } := Heap.get?_push_of_some _ new
        exact PyProof.Rows.SetOf_congr ((PyProof.Rows.setObjOf_fresh (knd := PySem.strKind prog w) led).setOf e5 (by unfold scanBound; omega)) (fun _ => rfl) rfl
      · intro s' mv sets
        obtain ⟨h', g', d', tk', os'⟩ := s'
        obtain rfl : g' = s.gens := mv.gens
        obtain rfl : d' = s.drawn := mv.drawn
        obtain rfl : os' = s.os := mv.os
        refine wpAny_pure (?_ : wpAny _ _ (ret Value.none) _ _ _)
        refine wpAny_pure ⟨rfl, h', tk', rfl, sets, fun b o hb e => ?_⟩
        refine mv.heap b o ?_ (Heap.get?_push_of_some _ (old b o e))
        simp only [List.mem_cons, List.not_mem_nil, or_false, not_or]
        exact ⟨Nat.ne_of_lt hb, Nat.ne_of_lt (by rw [zh1]; exact Nat.lt_succ_of_lt hb)⟩
    · match r₂, got₂ with
      | .error e, got₂ => exact got₂
      | .ok .next, got₂ => exact got₂.elim
      | .ok .brk, got₂ => exact got₂.elim
      | .ok .cont, got₂ => exact got₂.elim
      | .ok (.ret v), ⟨ev, h', tk, es, sets, kp⟩ =>
        subst ev es
        repeat any_goals first | assumption | wp_step
        exact fin _ _ sets kp
end
section
variable {X : Cx}
/-- len(set(xs)), xs texts in a list or in a tuple -/
def tLenSetS (K : PySem.W.Frag) (ta : TE) : TE := fun σ H Q => ta σ H fun x H1 => ∃ (l : Addr) (zs : List Str), x = .ref l ∧ (SqL K H1 l (zs.map V.str) ∨ SqT K H1 l (zs.map V.str)) ∧ zs.length ≤ 4000 ∧ Q (.int ((firsts [] zs).length : Nat)) H1
theorem pe_lenSetS {a : Expr} {ta : TE} {p p2 q pos : Pos} (g1 : Gl X "len") (m1 : X.mg "len" = none) (g2 : Gl X "set") (m2 : X.mg "set" = none) (ha : PE X a ta) (calm : X.calm = true := by rfl)
    (na : starEach [a] X.env = (false, eval a X.env) :: starEach [] X.env := by rfl) : PE X (.Call (.Name "len" p) [.Call (.Name "set" p2) [a] [] q] [] pos) (tLenSetS X.K ta) := by
  refine ⟨fun pins s σ H Q I hw => ?_⟩
  refine Call_ (ld_blt I g1 m1 PySem.boot_len (PyProof.Rows.callWith_builtin1 (PyProof.Rows.args_cons ?_ rfl) rfl rfl))
  refine Call_ (ld_blt I g2 m2 PyProof.Rows.boot_set (PyProof.Rows.callWith_type1 (PyProof.Rows.args_cons (thn (ha.run pins s σ H _ I hw) fun v s1 ⟨x, H1, I1, r1, q1⟩ => PyProof.Rows.args_nil ?_) na) na rfl))
  obtain ⟨l, zs, rfl, hq, hl, q1⟩ := q1
  cases r1
  have len0 := firsts_len zs ([] : List Str)
  rw [List.length_nil] at len0
  have fin : ∀ (h' : Heap) (tk : Nat), h'.SetOf (PySem.strKind X.prog X.w) s1.heap.objs.size (fun k => (firsts [] zs).contains k) (firsts [] zs).length → (∀ b o, b < s1.heap.objs.size → s1.heap.get? b = some o → h'.get? b = some o) →
      wpAny (model X.prog X.w) X.A (call (.builtin "len") [.ref s1.heap.objs.size]) (EP X pins σ Q) X.xe { s1 with heap := h', toks := tk } := fun h' tk sets kp => by
    obtain ⟨o, es, ep, t, ho, ex, hd, _, _, _, hf2, hn⟩ := sets
    have I2 : Inv X pins σ H1 { s1 with heap := h', toks := tk } := I1.kept fun b o e => kp b o (Heap.lt_size e) e
    exact call_len_set ho ex hd hf2 (by rw [hn] <;> omega) ⟨.int ((firsts [] zs).length : Nat), H1, I2.tok _, ⟨_, by rw [hn]⟩, q1⟩
  rcases hq with hq | hq
  · obtain ⟨its, r, pl, hz⟩ := I1.list hq
    exact set_list (I1.ok.hd calm) pl.isList (by simpa using r.strs) (by unfold scanBound; omega) fun h' tk sets kp => PyProof.Rows.args_nil (fin h' tk sets kp)
  · obtain ⟨its, r, pl, hz⟩ := I1.tuple hq
    exact set_tuple (I1.ok.hd calm) pl (by simpa using r.strs) (by unfold scanBound; omega) fun h' tk sets kp => PyProof.Rows.args_nil (fin h' tk sets kp)
end
end OS

set_option maxHeartbeats 4000000
/-! An own exception's __init__ that says super().__init__(text) and then self.f = x: its promise. -/
namespace OS
open PySem PySem.Spec PyProof.Rows L2
/-- the promise: the exception at a gets a dict with its one field -/
def spExcI (C : Addr) (fld : Str) : Sp := fun vs H Q _ => ∃ (a : Addr) (v : V), vs = [.ref a, v] ∧ H a = some (exo a C none) ∧ ∀ dx, H dx = none → dx ≠ a → Q .non (upd (upd H dx (exd dx [(fld, v)])) a (exo a C (some dx)))
/-- the body -/
abbrev supBody (msg fld arg : Str) (p0 p1 p2 p3 p4 p5 q0 q1 q2 q3 : Pos) (j : Nat) : List Stmt :=
  [.Expr (.Call (.Attribute (.Call (.Name "super" p0) [] [] p1) "__init__" p2) [.Constant (.str msg) j p3] [] p4) p5,
   .Assign [.Attribute (.Name "self" q0) fld q1] (.Name arg q2) q3]
section
variable {P : Program} {w : World} {K : PySem.W.Frag} {mg : Str → Option Value} {base : Heap}
theorem fn_super {msg fld arg qual : Str} {p0 p1 p2 p3 p4 p5 q0 q1 q2 q3 : Pos} {j : Nat} {f C cc cda : Addr} {params : Arguments} {scope : Scope} {dV kV doc pm ct oc ccl cl : Value} {an od cdd cld : Option Addr} {osl ccs csl : Array (Option Value)}
    {vs2 : Array Value} {file : Str} {tf : Tok} {ar : Arg} {cd : ClassData}
    (lk : K.lookup f = some ⟨oc, od, .func (PySem.W.ksFn "__init__" qual params (supBody msg fld arg p0 p1 p2 p3 p4 p5 q0 q1 q2 q3 j) scope dV kV doc pm an (.ref cda) ct cc), osl⟩)
    (hcd : PySem.W.codeIn K (.ref cda) qual = true) (T : OexC K C)
    (kS : scope.names.lookup ("self" : Str) = some .local) (kA : scope.names.lookup arg = some .local) (kCl : scope.names.lookup ("__class__" : Str) = some .free) (kSu : scope.names.lookup ("super" : Str) = some .globalImplicit) (hnocell : ∀ x ∈ scope.names, x.2 ≠ .cell) (hk : scope.kind = .function) (hco : scope.isCoroutine = false) (hgen : scope.isGenerator = false)
    (hparS : (params.posonlyargs ++ params.args).head? = some ar) (harS : ar.arg = "self") (hself : ¬ arg = "self") (hdb : ¬ arg = "__debug__")
    (hcode : K.lookup cda = some ⟨ccl, cdd, .fields vs2, ccs⟩) (hvs : vs2[2]? = some (.str file tf)) (hfile : ((P.main.file : Str) == file) = true) (htop : (P.main.scope.names.lookup ("super" : Str)).isSome = false)
    (hcell : K.lookup cc = some ⟨cl, cld, .cell (some (.ref C)), csl⟩) (hD : PySem.W.clsIn K C = some cd) (hsub : PySem.W.mroIn K C (.ref C) = some true) (hsuper : mg "super" = none)
    (hany : PySem.W.nsIn K cStatics "thirdparty.any" = some none) (hinit : PySem.W.ks_superIn K C C "__init__" = some (some (.builtin "ValueError.__init__"))) (hVE : PySem.W.subIn K (.ref C) (.type "ValueError") = some true)
    (hno : PySem.W.findIn K (.ref C) fld = some none)
    (he : ∀ env : Env, ∃ pl : Sem Bool, eval (.Call (.Attribute (.Call (.Name "super" p0) [] [] p1) "__init__" p2) [.Constant (.str msg) j p3] [] p4) env = (do
      let ov ← attributeBase (.Call (.Name "super" p0) [] [] p1) "__init__" env (eval (.Call (.Name "super" p0) [] [] p1) env)
      standAt p2.atName
      let (f, first) ← holding [ov] (getMethod ov "__init__" pl)
      callWith p4 f first (backTo p4 (starEach [.Constant (.str msg) j p3] env)) [])) :
    FnOk P w K mg base CX0 1 f (PySem.W.ksFn "__init__" qual params (supBody msg fld arg p0 p1 p2 p3 p4 p5 q0 q1 q2 q3 j) scope dV kV doc pm an (.ref cda) ct cc) ["self", arg] (spExcI C fld) := by
  obtain ⟨kind, names, gen, co, more⟩ := scope
  dsimp only at kS kA kCl kSu hnocell hk hco hgen
  subst hk hco hgen
  refine ⟨fun vs H Q E h => ?_, fun A outer s H args us vs Q E hr e0 hb r hsp => ?_⟩
  · obtain ⟨a, v, rfl, _⟩ := h
    rfl
  · obtain ⟨a, v, rfl, hHa, k⟩ := hsp
    cases r with
    | cons r1 r => cases r with
      | cons r2 r => cases r with
        | nil =>
    rename_i ua uv
    cases (show ua = Value.ref a from r1)
    have KX : K.In s.heap := e0.mod.kin.keeps fun b o e => (e0.bs b o e).1
    have lim : s.heap.NoLimit := e0.mod.nolimit.keeps fun b o e => (e0.bs b o e).1
    refine PySem.ks_codeAny_call_defAt (binds := [("self", .ref a), (arg, uv)]) hr.depth (KX _ _ lk) rfl lim (PySem.W.codeRec_of KX hcd) rfl hb hnocell ?_ (fun h1 hn1 k1 => ?_) rfl rfl rfl
    · intro x hx
      simp only [List.mem_cons, List.not_mem_nil, or_false] at hx
      rcases hx with rfl | rfl
      · exact kS
      · exact kA
    · have keep1 : ∀ b o, s.heap.get? b = some o → h1.get? b = some o := k1
      have K1 : K.In h1 := KX.keeps k1
      obtain ⟨ox, hox, hoxe⟩ : ∃ ox : Obj, s.heap.get? a = some ox ∧ ∃ t1 : Addr, ox = { cls := .ref C, dict := none, data := .fields #[.ref t1, .none, .none, .none, .bool false, .none] } := by
        obtain ⟨t1, ho⟩ := exo_at e0.hok hHa
        exact ⟨_, ho, t1, rfl⟩
      obtain ⟨t1, rfl⟩ := hoxe
      have haC : a ≠ C := by
        rintro rfl
        obtain ⟨nm, q, N, bs, bm, sn, sub, ab, col, dd, k0, k1', k2, k3, k5, hC, _⟩ := T.cls
        have := KX _ _ hC
        rw [hox] at this
        cases this
      obtain ⟨oD, hD1, hD2⟩ : ∃ oD, h1.get? C = some oD ∧ oD.data = .cls cd := by
        unfold PySem.W.clsIn at hD
        split at hD
        · rename_i c d cd' sl ho
          cases hD
          exact ⟨_, K1 _ _ ho, rfl⟩
        · cases hD
      obtain ⟨pl, hpl⟩ := he (callEnv _ s.heap.objs.size f)
      refine PySem.ks_wpAt_execs_cons (PySem.ks_wpAt_Expr_any (PySem.ks_wpAt_MethodCall ?_ hpl))
      refine PySem.ks_wpAt_super_base kSu kCl rfl rfl (k1 _ _ (KX _ _ lk)) rfl hparS rfl (k1 _ _ (KX _ _ hcode)) rfl hvs hfile htop ?_
      obtain ⟨mb, hb1, hb2⟩ := e0.mod.blt
      have kb : ∀ b o, base.get? b = some o → h1.get? b = some o := fun b o e => k1 _ _ (e0.bs b o e).1
      refine PySem.W.ks_loadName_global rfl kSu (Calls.loadGlobal_builtin (e0.mod.glob.keeps kb) hsuper (hb1.keeps kb) ((hb2 _ (by decide)).trans (show bootBuiltins "super" = some (.type "super") by decide +kernel)) ⟨rfl, ?_⟩)
      refine wpAny_loadName_free rfl kCl rfl ⟨_, K1 _ _ hcell, rfl⟩ ?_
      refine wpAny_loadName_local rfl (by rw [harS]; exact kS) hn1 (v := .ref a) ?_ ?_
      · rw [harS]
        have n1 : (("self" : Str) == arg) = false := beq_eq_false_iff_ne.mpr fun q => hself q.symm
        show List.lookup ("self" : Str) [(arg, uv), ("self", Value.ref a)] = some (.ref a)
        rw [List.lookup_cons, n1, List.lookup_cons, beq_self_eq_true]
      · refine PySem.ks_wpAny_isType_cls hD1 hD2 ⟨rfl, ?_⟩
        refine PySem.ks_wpAny_call_super hD1 hD2 (k1 _ _ hox) rfl (fun c e => by cases e) (PySem.W.looks_mroIn K1 hsub) (fun h2 e2 k2 => ?_)
        have K2 : K.In h2 := K1.keeps k2
        have hox2 := k2 _ _ (k1 _ _ hox)
        have I2 : PySem.W.InstAt h2 a { cls := .ref C, dict := none, data := .fields #[.ref t1, .none, .none, .none, .bool false, .none] } C none := ⟨hox2, rfl, rfl, trivial⟩
        unfold PySem.W.ks_superIn at hinit
        rw [hD] at hinit
        refine PySem.W.kxs_getMethod PySem.W.kxs_ValueError e2 (PySem.W.looks_opaque K2 hany) (l₀ := cd.mro) (fun A Q E s k q => wpAny_bind ((PySem.W.looks_clsIn K2 hD) A _ E s k (wpAny_pure q))) rfl K2 hinit (I2.type.andThen (PySem.W.looks_subIn K2 hVE)) haC rfl ?_
        have lt1 : a < s.heap.objs.size := Heap.lt_size hox
        obtain ⟨oL, es, ep, hL, rL⟩ := id hn1
        have sz1 : s.heap.objs.size ≤ h2.objs.size := Nat.le_of_lt (Heap.lt_size (k2 _ _ hL))
        have k3 : ∀ b o, h2.get? b = some o → (h2.push (PySem.W.kxs_mw "ValueError.__init__" a)).get? b = some o := fun b o e => Heap.get?_push_of_some _ e
        have hu3 : (h2.push (PySem.W.kxs_mw "ValueError.__init__" a)).get? h2.objs.size = some (PySem.W.kxs_mw "ValueError.__init__" a) := Heap.get?_push_at rfl rfl
        have hox3 := k3 _ _ hox2
        generalize h2.push (PySem.W.kxs_mw "ValueError.__init__" a) = h3 at k3 hu3 hox3 ⊢
        refine PySem.W.kxs_callWith (i := "ValueError.__init__") (x := a) rfl (PySem.Calls.evalArgs_plain (Calls.spliced_cons ?_))
        refine Calls.Constant_str (pos := p3) (k := j) (Calls.spliced_nil ⟨hu3, ?_⟩)
        obtain ⟨nm, q, N, bs, bm, sn, sub, ab, col, dd, kk0, kk1, kk2, kk3, kk5, hC, hbm⟩ := T.cls
        have FB := PySem.F.excBase_ValueError
        have hC3 := k3 _ _ (k2 _ _ (K1 _ _ hC))
        refine wpAny_call (codeAny_of_tree ?_); show wpAny _ _ (callAny (.ref h2.objs.size) ⟨_, []⟩) _ _ _; simp only [callAny]
        refine wpAny_bind (wpAny_load hu3 ?_); simp only [PySem.W.kxs_mw, show (Value.type "method-wrapper" == Value.type "method" || Value.type "method-wrapper" == Value.type "builtin_function_or_method" || Value.type "method-wrapper" == Value.type "method-wrapper") = true by decide, if_true]
        refine PySem.W.KFB.if_so (by decide) (wpAny_bind (PySem.W.check_bound_init FB.toExcCallFacts hC3 hox3 rfl ?_)); refine wpAny_bind (wpAny_pure (wpAny_pure ?_))
        refine ⟨plainId_quiet FB.init.plain _, codeAny_builtin FB.initEntry (PySem.W.exc_init_tree (cls := .ref C) (t0 := t1) (dv := none) (c2 := .none) (c3 := .none) (b4 := .bool false) hox3 (by show 1 ≤ sizeLine; decide) fun h4 k4 e4 t4 => ?_)⟩
        have k04 : ∀ b o, b ≠ a → s.heap.get? b = some o → h4.get? b = some o := fun b o hb e => k4 _ _ hb (k3 _ _ (k2 _ _ (k1 _ _ e)))
        have K4 : K.In h4 := fun b o e => by
          have hb := e0.mod.kin _ _ e
          obtain ⟨e1, e2⟩ := e0.bs _ _ hb
          exact k04 _ _ (fun z => by rw [z, hHa] at e2; cases e2) e1
        have hn4 : h4.Ns s.heap.objs.size (fun x => List.lookup x [((Str.ofString "self"), Value.ref a), (arg, uv)].reverse) := ⟨oL, es, ep, k4 _ _ (Nat.ne_of_gt lt1) (k3 _ _ (k2 _ _ hL)), rL⟩
        refine PySem.ks_wpAt_execs_cons (PySem.ks_wpAt_Assign_Attr (PySem.wpAt_of_wpAny (PySem.ldc rfl kA hn4 (v := uv) ?_ (PySem.ldc rfl kS hn4 (v := .ref a) ?_ ?_ ?_) ?_)))
        · show List.lookup arg [(arg, uv), (("self" : Str), Value.ref a)] = some uv
          rw [List.lookup_cons, beq_self_eq_true]
        · have n1 : (("self" : Str) == arg) = false := beq_eq_false_iff_ne.mpr fun q => hself q.symm
          show List.lookup ("self" : Str) [(arg, uv), ("self", Value.ref a)] = some (.ref a)
          rw [List.lookup_cons, n1, List.lookup_cons, beq_self_eq_true]
        · have hcl : PySem.W.clsIn K C = some { name := nm, bases := bs, mro := .ref C :: bm, ns := N, qualname := q, hasDict := true, slotNames := sn, subclasses := sub, abstract := ab, collection := col, hasDel := false } := by
            unfold PySem.W.clsIn
            rw [hC] <;> rfl
          refine PySem.W.set_plain K4 (ox := { cls := .ref C, dict := none, data := .fields #[.ref h3.objs.size, .none, .none, .none, .bool false, .none] }) (od := none) ⟨e4, rfl, rfl, trivial⟩ T.sa ?_
          refine PySem.HandSPX.exc_osa K4 e4 hcl (show PySem.HandSPX.refsVE (.ref C :: bm) = true from hbm) rfl hno (fun h5 tk5 dx k5 ldx dne e5 n5 => ?_)
          have k05 : ∀ b o, b ≠ a → s.heap.get? b = some o → h5.get? b = some o := fun b o hb e => k5 _ _ hb (k04 _ _ hb e)
          have szd : s.heap.objs.size ≤ dx := by
            have : s.heap.objs.size < h4.objs.size := Heap.lt_size (k4 _ _ (Nat.ne_of_gt lt1) (k3 _ _ (k2 _ _ hL)))
            exact Nat.le_of_lt (Nat.lt_of_lt_of_le this ldx)
          have Hdx : H dx = none := e0.hok.fresh szd
          have nb : ∀ {b : Addr} {o : Obj}, s.heap.get? b = some o → b ≠ dx := fun {b o} e => Nat.ne_of_lt (Nat.lt_of_lt_of_le (Heap.lt_size e) szd)
          have nh : ∀ {b : Addr}, H b = none → b ≠ a := fun {b} e z => by rw [z, hHa] at e; cases e
          have U : Un (frs outer) [] H (upd (upd H dx (exd dx [(fld, v)])) a (exo a C (some dx))) s.heap h5 := by
            constructor
            · exact fun b o e n _ _ => k05 b o (nh n) e
            · exact fun b o e n _ _ => ⟨o.slots, k05 b o (nh n) e⟩
            · intro b o e n _
              rw [upd_ne (nh n), upd_ne (nb e)]
              exact n
            · intro b o e _
              by_cases hb : b = a
              · subst hb
                exact ⟨_, e5⟩
              · exact ⟨o, k05 b o hb e⟩
            · intro b xs e
              rw [upd_ne (at_ne hHa e exo_tup), upd_ne (ne_of_none e Hdx)]
              exact e
            · intro b o u e
              rw [upd_ne (at_ne hHa e exo_frz), upd_ne (ne_of_none e Hdx)]
              exact e
            · intro b ps e
              refine ⟨#[], ?_⟩
              rw [upd_ne (at_ne hHa e exo_tbl), upd_ne (ne_of_none e Hdx), e]
              simp
          refine PySem.wpAt_of_wpAny (wpAny_pure ?_)
          refine ⟨.non, _, rfl, e0.bare, U, fun b o e => ?_, rfl, k dx Hdx dne⟩
          by_cases hb : b = a
          · subst hb
            rw [upd_same] at e
            cases e
            exact exo_ok e5
          · rw [upd_ne hb] at e
            by_cases hd : b = dx
            · subst hd
              rw [upd_same] at e
              cases e
              exact exd_ok n5 (relO_put (fs := []) r2 fun g => True.intro)
            · rw [upd_ne hd] at e
              refine (e0.hok b o e).stay (fun c u hc z => k05 c u ?_ z) (fun c hc => ?_) (fun c xs hc => ?_)
              · rcases hc with hc | hc
                · rw [hc]
                  exact hb
                · exact at_ne hHa hc exo_own
              · rw [upd_ne (at_ne hHa hc exo_own), upd_ne (ne_of_none hc Hdx)]
                exact hc
              · rw [upd_ne (at_ne hHa hc exo_tup), upd_ne (ne_of_none hc Hdx)]
                exact hc
        · decide +kernel
        · exact beq_eq_false_iff_ne.mpr hdb
end
end OS

namespace OS
open PySem PySem.Spec PyProof.Rows L2
/-! ### methods, errors -/
structure MCal (P : Program) (w : World) (K : PySem.W.Frag) (mg : Str → Option Value) (base : Heap) (C : Addr) (k : Nat) (x : Str) (ps : List Str) (sp : Sp) (f : Addr) (fd : FuncData) : Prop where
  G : FnOk P w K mg base CX0 k f fd ps sp
  b : Binds K fd ps []
  m : Meth K C x f
structure MCalX (P : Program) (w : World) (K : PySem.W.Frag) (mg : Str → Option Value) (base : Heap) (C : Addr) (k : Nat) (x : Str) (ps : List Str) (sp : Sp) (f : Addr) (fd : FuncData) : Prop where
  G : FnOk P w K mg base (L2.CX P w) k f fd ps sp
  b : Binds K fd ps []
  m : Meth K C x f
structure CalX (P : Program) (w : World) (K : PySem.W.Frag) (mg : Str → Option Value) (base : Heap) (k : Nat) (x : Str) (ps : List Str) (sp : Sp) (f : Addr) (fd : FuncData) : Prop where
  G : FnOk P w K mg base (L2.CX P w) k f fd ps sp
  b : Binds K fd ps []
  k : PySem.W.keepIn K (.ref f) = true
  m : mg x = some (.ref f)
/-- an own error with one field -/
structure OCal (P : Program) (w : World) (K : PySem.W.Frag) (mg : Str → Option Value) (base : Heap) (C : Addr) (x fld : Str) (f : Addr) (fd : FuncData) : Prop where
  T : OexC K C
  iC : PySem.W.findIn K (.ref C) "__init__" = some (some (.ref f))
  tI : PySem.W.typeIn K (.ref f) = some (.type "function")
  G : FnOk P w K mg base CX0 1 f fd ["self", fld] (spExcI C fld)
  b : Binds K fd ["self", fld] []
  m : mg x = some (.ref C)
theorem passE {X : Cx} {E : XK} (tk : Takes X (fun cls d _ H => E cls d H)) : Passes (L2.CX X.prog X.w) X E := passes_call tk fun _ _ _ _ h => h
/-- the field of an error that is read -/
def xdF (H : Hp) (d : Option Addr) (fld : Str) (v : V) : Prop := ∃ a, d = some a ∧ H a = some (.xd [(fld, v)])
/-- what the making of such an error asks: that what follows holds of it -/
theorem mk_exc {C : Addr} {fld : Str} {v : V} {H : Hp} {Q : XK} (hq : ∀ (d : Addr) (H' : Hp), Same H H' → H d = none → xdF H' (some d) fld v → Q (.ref C) (some d) H') :
    [v].length ≤ 1000 ∧ ∀ a, H a = none → spExcI C fld (.ref a :: ([v] ++ [])) (upd H a (exo a C none)) (fun u H2 => u = .non ∧ ∃ (d : Addr) (fs : List (Str × V)), H2 a = some (exo a C (some d)) ∧ H2 d = some (exd d fs) ∧ H d = none ∧ Q (.ref C) (some d) (upd (del H2 a) d (.xd fs))) (fun _ _ _ => False) := by
  refine ⟨by show 1 ≤ 1000; decide, fun a ha => ⟨a, v, rfl, upd_same, fun dx hdx hne => ⟨rfl, dx, [(fld, v)], upd_same, ?_, ?_, ?_⟩⟩⟩
  · rw [upd_ne hne]
    exact upd_same
  · rw [upd_ne hne] at hdx
    exact hdx
  · rw [upd_ne hne] at hdx
    refine hq dx _ (fun b o e => ?_) hdx ⟨dx, rfl, upd_same⟩
    rw [upd_ne (ne_of_none e hdx), del_ne (ne_of_none e ha), upd_ne (ne_of_none e ha), upd_ne (ne_of_none e hdx), upd_ne (ne_of_none e ha)]
    exact e
/-! ### checks -/
def endsS : Stm → List Str
  | .msg a b _ _ _ => [a, b]
  | .set e _ _ => [e]
  | .ask e _ => [e]
  | .call _ es => es
  | .ite e _ _ _ => [e]
  | .whl e _ _ => [e]
theorem firsts_nd {κ : Type} [DecidableEq κ] (l : List κ) : ((firsts [] l).length = l.length) ↔ l.Nodup := by
  have gen : ∀ (l acc : List κ), acc.Nodup → (firsts acc l).length ≤ acc.length + l.length ∧ ((firsts acc l).length = acc.length + l.length ↔ (acc ++ l).Nodup) := by
    intro l
    induction l with
    | nil => exact fun acc h => ⟨Nat.le_refl _, by simp [firsts, h]⟩
    | cons x r ih =>
      intro acc h
      have e : firsts acc (x :: r) = firsts (if x ∈ acc then acc else acc ++ [x]) r := rfl
      rw [e, List.length_cons]
      by_cases c : x ∈ acc
      · rw [if_pos c]
        obtain ⟨i1, _⟩ := ih acc h
        refine ⟨by omega, fun q => absurd q (by omega), fun q => ?_⟩
        exact absurd rfl ((List.nodup_append.mp q).2.2 x c x (List.mem_cons_self ..))
      · rw [if_neg c]
        have h2 : (acc ++ [x]).Nodup := List.nodup_append.mpr ⟨h, by simp, fun a ha b hb e => by rw [List.mem_singleton.mp hb] at e; exact c (e ▸ ha)⟩
        obtain ⟨i1, i2⟩ := ih _ h2
        rw [List.length_append, List.length_singleton] at i1 i2
        rw [List.append_assoc, List.singleton_append] at i2
        refine ⟨by omega, ?_⟩
        rw [← i2]
        constructor <;> intro q <;> omega
  obtain ⟨_, h⟩ := gen l [] List.nodup_nil
  rw [List.length_nil, Nat.zero_add, List.nil_append] at h
  exact h
section
variable {P : Program} {w : World} {K : PySem.W.Frag} {mg : Str → Option Value} {base : Heap} {CS : Addr}
def spDif (K : PySem.W.Frag) : Sp := fun vs H Q _ => ∃ (p : Addr) (zs : List Str), vs = [.ref p] ∧ (SqL K H p (zs.map V.str) ∨ SqT K H p (zs.map V.str)) ∧ zs.length ≤ 4000 ∧ Q (.bl (decide zs.Nodup)) H
theorem ok_are_different {f : Addr} {fd : FuncData} (F : Fun K "are_different" "are_different" s_are_different f fd) (T : Txt K mg) : FnOk P w K mg base CX0 1 f fd ["names"] (spDif K) := by
  refine F.ok sc_are_different (fun vs H Q E h => ?_) (fun cdv A outer s H vs Q E hr h => ?_)
  · obtain ⟨p, zs, rfl, _⟩ := h
    rfl
  · obtain ⟨p, zs, rfl, hp, hl, k⟩ := h
    refine ⟨_, (pss_one (ps_ret (pe_cmpR op_eq (pe_lenSetS (by rfl) T.len (by rfl) T.set (pv 0)) (pe_callB call_len_seq (by rfl) T.len PySem.boot_len (pa_cons (pv 0) pa_nil)) (nomark _)))), ?_⟩
    refine ⟨_, rfl, p, zs, rfl, hp, hl, _, rfl, p, _, rfl, hp, rfl, ?_⟩
    rw [List.length_map]
    have e : decide (V.int ((firsts [] zs).length : Nat) = V.int (zs.length : Nat)) = decide zs.Nodup := decide_eq_decide.mpr ⟨fun q => (firsts_nd zs).mp (by injection q with q; omega), fun q => by rw [(firsts_nd zs).mpr q]⟩
    rw [e]
    exact k
theorem names_of {H : Hp} {es : List Str} {v : V} (h : At K H (namesDt es) v) : ∃ p, v = .ref p ∧ H p = some (.tup (es.map V.str)) := by
  unfold namesDt At at h
  obtain ⟨p, vs, rfl, hp, hl⟩ := h
  have e : vs = es.map V.str := by
    clear hp
    induction es generalizing vs with
    | nil => simp only [List.map_nil, AtL] at hl; exact hl
    | cons z r ih =>
      simp only [List.map_cons, AtL, At] at hl
      obtain ⟨_, r2, rfl, rfl, h2⟩ := hl
      rw [ih _ h2]
      rfl
  subst e
  exact ⟨p, rfl, hp⟩
def spEnds (K : PySem.W.Frag) : Sp := fun vs H Q _ => ∃ (v : V) (s : Stm), vs = [v] ∧ At K H s.dt v ∧ ∀ p H', Same H H' → H' p = some (.tup ((endsS s).map V.str)) → Q (.ref p) H'
theorem ok_ends_of {f : Addr} {fd : FuncData} (F : Fun K "ends_of" "ends_of" s_ends_of f fd) (T : Txt K mg) : FnOk P w K mg base CX0 1 f fd ["statement"] (spEnds K) := by
  refine F.ok sc_ends_of (fun vs H Q E h => ?_) (fun cdv A outer s H vs Q E hr h => ?_)
  · obtain ⟨v, x, rfl, _⟩ := h
    rfl
  · obtain ⟨v, x, rfl, hat, k⟩ := h
    refine ⟨_, (pss_cons (ps_if (pt_cmpR op_eq (pe_ix ix_tup (pv 0) pe_int (fun _ _ => rfl)) pe_str (nomark _)) (pss_one (ps_ret (pe_tup (pa_cons (pe_ix ix_tup (pv 0) pe_int (fun _ _ => rfl)) (pa_cons (pe_ix ix_tup (pv 0) pe_int (fun _ _ => rfl)) pa_nil))))) pss_nil)
      (pss_cons (ps_if (pt_cmpR op_eq (pe_ix ix_tup (pv 0) pe_int (fun _ _ => rfl)) pe_str (nomark _)) (pss_one (ps_ret (pe_ix ix_tup (pv 0) pe_int (fun _ _ => rfl)))) pss_nil)
      (pss_one (ps_ret (pe_tup (pa_cons (pe_ix ix_tup (pv 0) pe_int (fun _ _ => rfl)) pa_nil)))))), ?_⟩
    cases x with
    | msg a b l v x =>
      unfold Stm.dt At at hat
      obtain ⟨p, vs, rfl, hp, hl⟩ := hat
      simp only [AtL, At] at hl
      obtain ⟨_, _, rfl, rfl, _, _, rfl, rfl, _, _, rfl, rfl, _⟩ := hl
      refine ⟨_, rfl, p, _, _, _, rfl, rfl, SqT.of hp, atI_nat (j := 0) rfl, rfl, _, rfl, iteDT rfl ?_⟩
      exact ⟨_, rfl, p, _, _, _, rfl, rfl, SqT.of hp, atI_nat (j := 1) rfl, _, rfl, p, _, _, _, rfl, rfl, SqT.of hp, atI_nat (j := 2) rfl, by show 2 ≤ sizeLine; decide, fun q hq => k q _ (same_upd hq) upd_same⟩
    | call c es =>
      unfold Stm.dt At at hat
      obtain ⟨p, vs, rfl, hp, hl⟩ := hat
      simp only [AtL] at hl
      obtain ⟨v0, _, rfl, h0, v1, _, rfl, h1, v2, _, rfl, h2, rfl⟩ := hl
      unfold At at h0 h1
      subst h0 h1
      obtain ⟨q, rfl, hq⟩ := names_of h2
      refine ⟨_, rfl, p, _, _, _, rfl, rfl, SqT.of hp, atI_nat (j := 0) rfl, rfl, _, rfl, iteDF (fun e => absurd (V.str.inj e) (by decide +kernel)) ?_⟩
      refine ⟨_, rfl, p, _, _, _, rfl, rfl, SqT.of hp, atI_nat (j := 0) rfl, rfl, _, rfl, iteDT rfl ?_⟩
      exact ⟨_, rfl, p, _, _, _, rfl, rfl, SqT.of hp, atI_nat (j := 2) rfl, k q H (fun _ _ h => h) hq⟩
    | _ =>
      unfold Stm.dt At at hat
      obtain ⟨p, vs, rfl, hp, hl⟩ := hat
      simp only [AtL] at hl
      obtain ⟨v0, _, rfl, h0, v1, _, rfl, h1, _⟩ := hl
      unfold At at h0 h1
      subst h0 h1
      refine ⟨_, rfl, p, _, _, _, rfl, rfl, SqT.of hp, atI_nat (j := 0) rfl, rfl, _, rfl, iteDF (fun e => absurd (V.str.inj e) (by decide +kernel)) ?_⟩
      refine ⟨_, rfl, p, _, _, _, rfl, rfl, SqT.of hp, atI_nat (j := 0) rfl, rfl, _, rfl, iteDF (fun e => absurd (V.str.inj e) (by decide +kernel)) ?_⟩
      exact ⟨_, rfl, p, _, _, _, rfl, rfl, SqT.of hp, atI_nat (j := 1) rfl, by show 1 ≤ sizeLine; decide, fun q hq => k q _ (same_upd hq) upd_same⟩
/-- a dict of numbers with texts as keys -/
def cntK (cs : List (Str × Int)) : List (Key × V) := cs.map fun p => (Sum.inr p.1, V.int p.2)
def cntV (cs : List (Str × Int)) (p : Str) : Option Int := (cs.find? fun q => decide (q.1 = p)).map (·.2)
theorem cnt_val (cs : List (Str × Int)) (p : Str) : valV (cntK cs) (Sum.inr p) = (cntV cs p).map V.int := by
  unfold valV cntV cntK
  induction cs with
  | nil => rfl
  | cons c r ih =>
    rw [List.map_cons, List.find?_cons, List.find?_cons]
    have e : decide ((Sum.inr c.1 : Key) = Sum.inr p) = decide (c.1 = p) := decide_eq_decide.mpr ⟨fun q => by injection q, fun q => by rw [q]⟩
    show (match decide ((Sum.inr c.1 : Key) = Sum.inr p) with | true => some ((Sum.inr c.1 : Key), V.int c.2) | false => _).map _ = _
    rw [e]
    cases decide (c.1 = p) with
    | true => rfl
    | false => exact ih
def rightC (cs : List (Str × Int)) (p : Str) (es : List Str) : Bool := match cntV cs p with | some n => decide ((es.length : Int) = n) && decide es.Nodup | none => false
def spRight (K : PySem.W.Frag) : Sp := fun vs H Q _ => ∃ (v : V) (c : Addr) (cs : List (Str × Int)) (p : Str) (es : List Str), vs = [v, .ref c] ∧ At K H (Stm.call p es).dt v ∧ H c = some (.dK (cntK cs)) ∧ es.length ≤ 4000 ∧ Q (.bl (rightC cs p es)) H
theorem ok_is_right_call {f : Addr} {fd : FuncData} (F : Fun K "is_right_call" "is_right_call" s_is_right_call f fd) (T : Txt K mg) {f_are_different : Addr} {d_are_different : FuncData} (c_are_different : Cal P w K mg base 1 "are_different" ["names"] (spDif K) f_are_different d_are_different) : FnOk P w K mg base CX0 2 f fd ["statement", "counts"] (spRight K) := by
  refine F.ok sc_is_right_call (fun vs H Q E h => ?_) (fun cdv A outer s H vs Q E hr h => ?_)
  · obtain ⟨v, c, cs, p, es, rfl, _⟩ := h
    rfl
  · obtain ⟨v, c, cs, p, es, rfl, hat, hc, hes, k⟩ := h
    have hu := hu_of hr
    unfold Stm.dt At at hat
    obtain ⟨a, vs, rfl, hp, hl⟩ := hat
    simp only [AtL] at hl
    obtain ⟨v0, _, rfl, h0, v1, _, rfl, h1, v2, _, rfl, h2, rfl⟩ := hl
    unfold At at h0 h1
    subst h0 h1
    obtain ⟨q, rfl, hq⟩ := names_of h2
    refine ⟨_, (pss_cons (ps_asg (pv 0) (pg_tup (by rfl) (pgs_cons (pg_name (i := 2) sc_is_right_call.nd rfl (.inl rfl)) (pgs_cons (pg_name (i := 3) sc_is_right_call.nd rfl (.inl rfl)) (pgs_cons (pg_name (i := 4) sc_is_right_call.nd rfl (.inl rfl)) pgs_nil)))))
      (pss_one (ps_ret (pe_and (pe_cmp (pc_din hu (pv 3) (pv 1)) rfl) (pe_and (pe_cmpR op_eq (pe_callB call_len_seq (by rfl) T.len PySem.boot_len (pa_cons (pv 4) pa_nil)) (pe_dget hu (pv 1) (pv 3) (fun _ _ => rfl)) (nomark _)) (pe_one (pe_call c_are_different.G (hr.mono (by decide)) (by rfl) c_are_different.m c_are_different.k c_are_different.b .nil pass0 (pa_cons (pv 4) pa_nil)))))))), ?_⟩
    refine ⟨_, rfl, a, _, rfl, SqT.of hp, rfl, _, _, rfl, _, _, rfl, _, _, rfl, rfl, ?_⟩
    refine ⟨_, rfl, _, rfl, c, _, rfl, DGet.k (k := Sum.inr p) hc, ?_⟩
    rw [cnt_val]
    unfold rightC at k
    refine ⟨_, rfl, ?_⟩
    cases hv : cntV cs p with
    | none =>
      rw [hv] at k
      exact iteF k
    | some n =>
      rw [hv] at k
      have dg : DGet H c (.str p) (some (.int n)) := by
        have := DGet.k (k := Sum.inr p) hc
        rw [cnt_val, hv] at this
        exact this
      refine iteT ⟨_, rfl, q, _, rfl, .inr (SqT.of hq), _, rfl, _, rfl, c, _, rfl, dg, rfl, _, rfl, ?_⟩
      rw [List.length_map]
      by_cases c1 : (es.length : Int) = n
      · rw [decide_eq_true (show V.int (es.length : Nat) = V.int n by rw [← c1])]
        have k : Q (.bl (decide ((es.length : Int) = n) && decide es.Nodup)) H := k
        rw [decide_eq_true c1, Bool.true_and] at k
        exact iteT ⟨_, rfl, q, es, rfl, .inr (SqT.of hq), hes, k⟩
      · rw [decide_eq_false (show ¬ V.int (es.length : Nat) = V.int n from fun z => c1 (by injection z))]
        have k : Q (.bl (decide ((es.length : Int) = n) && decide es.Nodup)) H := k
        rw [decide_eq_false c1, Bool.false_and] at k
        exact iteF k
/-- None, or InvalidScore with this rule -/
def Chk (CS : Addr) (r : Option Str) (H : Hp) (Q : VK) (E : XK) : Prop := (r = none → ∀ H', Same H H' → Q .non H') ∧ ∀ z, r = some z → ∀ d H', Same H H' → xdF H' (some d) "rule" (.str z) → E (.ref CS) (some d) H'
structure ChkTxt (mg : Str → Option Value) : Prop where
  en : ∃ t, mg "MOST_ENDS" = some (.int 6 t)
  lo : ∃ t, mg "MOST_LOOPS" = some (.int 3 t)
  st : ∃ t, mg "MOST_STATEMENTS" = some (.int 150 t)
def nameRule (ends : List Str) (parts : List Prt) : Option Str :=
  if 6 < ends.length ∨ ¬ ends.Nodup then some "ends" else if ¬ (parts.map (·.name)).Nodup then some "parts" else if ∃ p ∈ parts, ¬ p.params.Nodup then some "parameters" else none
theorem part_at {H : Hp} {p : Prt} {v : V} (h : At K H p.dt v) : ∃ a q bv, v = .ref a ∧ H a = some (.tup [.str p.name, .ref q, bv]) ∧ H q = some (.tup (p.params.map V.str)) ∧ At K H (blkDt p.body) bv := by
  unfold Prt.dt At at h
  obtain ⟨a, vs, rfl, ha, hl⟩ := h
  simp only [AtL] at hl
  obtain ⟨v0, _, rfl, h0, v1, _, rfl, h1, v2, _, rfl, h2, rfl⟩ := hl
  unfold At at h0
  subst h0
  obtain ⟨q, rfl, hq⟩ := names_of h1
  exact ⟨a, q, v2, rfl, ha, hq, h2⟩
variable {f_err : Addr} {d_err : FuncData}
def spChkN (K : PySem.W.Frag) (CS : Addr) : Sp := fun vs H Q E => ∃ (e p : Addr) (us : List V) (ends : List Str) (parts : List Prt), vs = [.ref e, .ref p] ∧ H e = some (.tup (ends.map V.str)) ∧ H p = some (.tup us) ∧ AtL K H (parts.map Prt.dt) us ∧ ends.length ≤ 4000 ∧ parts.length ≤ 4000 ∧ (∀ p ∈ parts, p.params.length ≤ 4000) ∧ Chk CS (nameRule ends parts) H Q E
theorem ok_check_names {f : Addr} {fd : FuncData} (F : Fun K "check_names" "check_names" s_check_names f fd) (T : Txt K mg) (TG : ChkTxt mg) (O_InvalidScore : OCal P w K mg base CS "InvalidScore" "rule" f_err d_err) {f_are_different : Addr} {d_are_different : FuncData} (c_are_different : Cal P w K mg base 1 "are_different" ["names"] (spDif K) f_are_different d_are_different) : FnOk P w K mg base (L2.CX P w) 3 f fd ["ends", "parts"] (spChkN K CS) := by
  refine F.okX sc_check_names (fun vs H Q E h => ?_) (fun cdv A outer s H vs Q E hr h => ?_)
  · obtain ⟨e, p, us, ends, parts, rfl, _⟩ := h
    rfl
  · obtain ⟨e, p, us, ends, parts, rfl, he, hp, hA, le, lp, lpp, k1, k2⟩ := h
    obtain ⟨t6, m_MOST_ENDS⟩ := TG.en
    have lus := hA.length
    rw [List.length_map] at lus
    refine ⟨_, (pss_cons (ps_if (PW.pt (pw_or (pt_cmpR op_gt (pe_callB call_len_seq (by rfl) T.len PySem.boot_len (pa_cons (pv 0) pa_nil)) (pe_glob rfl m_MOST_ENDS relI) (nomark _)) (pw_or1 (pt_not (pt_val (pe_call c_are_different.G (hr.mono (by decide)) (by rfl) c_are_different.m c_are_different.k c_are_different.b .nil pass0 (pa_cons (pv 0) pa_nil))))))) (pss_one (ps_raise rfl (takes_of rfl rfl rfl rfl) (pmk_oex O_InvalidScore.T O_InvalidScore.iC O_InvalidScore.tI O_InvalidScore.G (hr.mono (by decide)) O_InvalidScore.b .nil pass0 (by rfl) O_InvalidScore.m (pa_cons pe_str pa_nil)))) pss_nil)
      (pss_cons (ps_if (pt_not (pt_val (pe_call c_are_different.G (hr.mono (by decide)) (by rfl) c_are_different.m c_are_different.k c_are_different.b .nil pass0 (pa_cons (pe_lc (own := [("part", 2)]) (g := gName 2) (by rfl) sc_check_names.nd (pi_tup (pv 1)) (blkOk_by (N := ["ends", "parts", "part"]) (sc := defScope s_check_names) (by decide +kernel)) (fun _ _ _ _ _ => pg_name (i := 2) sc_check_names.nd rfl (by first | exact Or.inl rfl | exact Or.inr rfl)) (fun _ _ _ _ _ => pts_nil) (fun _ _ _ _ _ => (pe_ix (show IxR _ (rIxT K) from ix_tup) (pv 2) pe_int (fun _ _ => rfl)))) pa_nil)))) (pss_one (ps_raise rfl (takes_of rfl rfl rfl rfl) (pmk_oex O_InvalidScore.T O_InvalidScore.iC O_InvalidScore.tI O_InvalidScore.G (hr.mono (by decide)) O_InvalidScore.b .nil pass0 (by rfl) O_InvalidScore.m (pa_cons pe_str pa_nil)))) pss_nil)
      (pss_one (ps_for (passes_of rfl) rfl (pi_tup (pv 1)) (pg_name (i := 2) sc_check_names.nd rfl (.inl rfl)) (pss_one (ps_if (pt_not (pt_val (pe_call c_are_different.G (hr.mono (by decide)) (by rfl) c_are_different.m c_are_different.k c_are_different.b .nil pass0 (pa_cons (pe_ix ix_tup (pv 2) pe_int (fun _ _ => rfl)) pa_nil)))) (pss_one (ps_raise rfl (takes_of rfl rfl rfl rfl) (pmk_oex O_InvalidScore.T O_InvalidScore.iC O_InvalidScore.tI O_InvalidScore.G (hr.mono (by decide)) O_InvalidScore.b .nil pass0 (by rfl) O_InvalidScore.m (pa_cons pe_str pa_nil)))) pss_nil)))))), ?_⟩
    refine ⟨_, rfl, e, _, rfl, .inr (SqT.of he), _, _, rfl, rfl, _, rfl, ?_⟩
    rw [List.length_map]
    have bad1 : 6 < ends.length ∨ ¬ ends.Nodup → nameRule ends parts = some "ends" := fun c => if_pos c
    by_cases c1 : 6 < ends.length
    · rw [decide_eq_true (show (6 : Int) < (ends.length : Nat) by omega)]
      exact iteT (iteT (mk_exc fun d H3 s3 _ hx => k2 _ (bad1 (.inl c1)) d H3 s3 hx))
    rw [decide_eq_false (show ¬ (6 : Int) < (ends.length : Nat) by omega)]
    refine iteF ⟨_, rfl, e, ends, rfl, .inr (SqT.of he), le, _, rfl, ?_⟩
    by_cases c2 : ends.Nodup
    · rw [decide_eq_true c2]
      unfold nameRule at k1 k2
      rw [if_neg (show ¬ (6 < ends.length ∨ ¬ ends.Nodup) from fun z => z.elim c1 (fun q => q c2))] at k1 k2
      refine iteF ⟨_, rfl, p, rfl, ⟨_, SqT.of hp⟩, fun D nD => ?_⟩
      refine lc_tup (K := K) (a := p) (xs := us) (fun i H' => ∃ vs, H' D = some (.lst vs) ∧ vs = ((parts.take i).map (·.name)).map V.str ∧ Same H H') ⟨[], upd_same, by simp, same_upd nD⟩ (fun i H' _ x => by obtain ⟨_, _, _, s⟩ := x; exact SqT.of (s _ _ hp)) ?_ ?_
      · rintro i x H2 hx ⟨vs, hD, rfl, s2⟩
        have hi : i < parts.length := by
          have := (List.getElem?_eq_some_iff.mp hx).1
          omega
        obtain ⟨v, e1, e2⟩ := hA.get (i := i) (d := parts[i].dt) (by rw [List.getElem?_map, List.getElem?_eq_getElem hi]; rfl)
        rw [hx] at e1
        cases e1
        obtain ⟨a, q, bv, rfl, ha, _⟩ := part_at e2
        refine ⟨rfl, iteT (B := True) ⟨_, rfl, a, _, _, _, rfl, rfl, SqT.of (s2 _ _ ha), atI_nat (j := 0) rfl, ?_⟩⟩
        refine ⟨_, hD, sz6' (by rw [List.length_map, List.length_map, List.length_take]; omega), _, upd_same, ?_, same_off nD s2⟩
        rw [List.take_add_one, List.getElem?_eq_getElem hi, List.map_append, List.map_append]
        rfl
      · rintro H2 ⟨vs, hD, rfl, s2⟩
        rw [lus, List.take_length] at hD
        refine ⟨D, _, rfl, .inl (SqL.of hD), by rw [List.length_map]; omega, _, rfl, ?_⟩
        by_cases c3 : (parts.map (·.name)).Nodup
        · rw [decide_eq_true c3]
          rw [if_neg (fun z => z c3)] at k1 k2
          refine iteF ⟨_, rfl, p, rfl, ⟨_, SqT.of (s2 _ _ hp)⟩, ?_⟩
          refine for_tup (K := K) (a := p) (xs := us) (fun i σ H' => ∃ y2, σ = [some (.ref e), some (.ref p), y2] ∧ Same H H' ∧ ∀ q ∈ parts.take i, q.params.Nodup) ⟨_, rfl, s2, fun q hq => by rw [List.take_zero] at hq; cases hq⟩ (fun i σ H' _ x => by obtain ⟨_, _, s, _⟩ := x; exact SqT.of (s _ _ hp)) ?_ ?_
          · rintro i x σ H3 hx ⟨y2, rfl, s3, hno⟩
            have hi : i < parts.length := by
              have := (List.getElem?_eq_some_iff.mp hx).1
              omega
            obtain ⟨v, e1, e2⟩ := hA.get (i := i) (d := parts[i].dt) (by rw [List.getElem?_map, List.getElem?_eq_getElem hi]; rfl)
            rw [hx] at e1
            cases e1
            obtain ⟨a, q, bv, rfl, ha, hq, _⟩ := part_at e2
            refine ⟨_, rfl, a, _, _, _, rfl, rfl, SqT.of (s3 _ _ ha), atI_nat (j := 1) rfl, q, _, rfl, .inr (SqT.of (s3 _ _ hq)), lpp _ (List.getElem_mem hi), _, rfl, ?_⟩
            by_cases c4 : (parts[i]).params.Nodup
            · rw [decide_eq_true c4]
              refine iteF ⟨_, rfl, s3, fun q hq => ?_⟩
              rw [List.take_add_one, List.getElem?_eq_getElem hi] at hq
              rcases List.mem_append.mp hq with hq | hq
              · exact hno q hq
              · rw [List.mem_singleton.mp hq]
                exact c4
            · rw [decide_eq_false c4]
              exact iteT (mk_exc fun d H4 s4 _ hx => k2 _ (if_pos ⟨_, List.getElem_mem hi, c4⟩) d H4 (Same.trans s3 s4) hx)
          · rintro σ H3 ⟨y2, rfl, s3, hno⟩
            rw [lus, List.take_length] at hno
            exact k1 (if_neg (fun ⟨q, hq, hn⟩ => hn (hno q hq))) H3 s3
        · rw [decide_eq_false c3]
          exact iteT (mk_exc fun d H3 s3 _ hx => k2 _ (if_pos c3) d H3 (Same.trans s2 s3) hx)
    · rw [decide_eq_false c2]
      exact iteT (mk_exc fun d H3 s3 _ hx => k2 _ (bad1 (.inr c2)) d H3 s3 hx)
end
end OS

namespace OS
open PySem PySem.Spec PyProof.Rows L2
def kindS : Stm → Str
  | .msg _ _ _ _ _ => "message"
  | .set _ _ _ => "set"
  | .ask _ _ => "ask"
  | .call _ _ => "call"
  | .ite _ _ _ _ => "if"
  | .whl _ _ _ => "while"
theorem stm_kind {K : PySem.W.Frag} {H : Hp} {s : Stm} {v : V} (h : At K H s.dt v) : ∃ p r, v = .ref p ∧ H p = some (.tup (.str (kindS s) :: r)) := by
  cases s <;>
  · unfold Stm.dt At at h
    obtain ⟨p, vs, rfl, hp, hl⟩ := h
    simp only [AtL] at hl
    obtain ⟨v0, r0, rfl, h0, _⟩ := hl
    unfold At at h0
    subst h0
    exact ⟨p, _, rfl, hp⟩
theorem inV_str (x : Str) : ∀ (cs : List Str), inV (.str x) (cs.map V.str) = decide (x ∈ cs)
  | [] => by simp [inV]
  | c :: cs => by
    have ih := inV_str x cs
    unfold inV at ih ⊢
    rw [List.map_cons, List.any_cons, ih]
    have e : eqV (.str c) (.str x) = decide (c = x) := by
      show (c == x) = _
      by_cases h : c = x
      · rw [decide_eq_true h]; exact beq_iff_eq.mpr h
      · rw [decide_eq_false h]; exact beq_eq_false_iff_ne.mpr h
    rw [e]
    by_cases h : c = x
    · subst h; simp
    · rw [decide_eq_false h, Bool.false_or]
      refine decide_eq_decide.mpr ⟨fun q => List.mem_cons_of_mem _ q, fun q => ?_⟩
      rcases List.mem_cons.mp q with q | q
      · exact absurd q.symm h
      · exact q
def badCall (cs : List (Str × Int)) : Stm → Bool
  | .call p es => !rightC cs p es
  | _ => false
def selfM : Stm → Bool
  | .msg a b _ _ _ => decide (a = b)
  | _ => false
def stmRule (cs : List (Str × Int)) (ends : List Str) (s : Stm) : Option Str :=
  if badCall cs s = true then some "call" else if ∃ e ∈ endsS s, e ∉ ends then some "unknown" else if selfM s = true then some "self" else none
/-- all lists of ends are short -/
def fewE (s : Stm) : Prop := (endsS s).length ≤ 4000
section
variable {P : Program} {w : World} {K : PySem.W.Frag} {mg : Str → Option Value} {base : Heap} {CS : Addr} {f_err : Addr} {d_err : FuncData}
def spChkS (K : PySem.W.Frag) (CS : Addr) : Sp := fun vs H Q E => ∃ (v : V) (e c : Addr) (s : Stm) (ends : List Str) (cs : List (Str × Int)), vs = [v, .ref e, .ref c] ∧ At K H s.dt v ∧ H e = some (.tup (ends.map V.str)) ∧ H c = some (.dK (cntK cs)) ∧ fewE s ∧ Chk CS (stmRule cs ends s) H Q E
theorem ok_check_statement {f : Addr} {fd : FuncData} (F : Fun K "check_statement" "check_statement" s_check_statement f fd) (T : Txt K mg) (O_InvalidScore : OCal P w K mg base CS "InvalidScore" "rule" f_err d_err) {f_is_right_call : Addr} {d_is_right_call : FuncData} (c_is_right_call : Cal P w K mg base 2 "is_right_call" ["statement", "counts"] (spRight K) f_is_right_call d_is_right_call) {f_ends_of : Addr} {d_ends_of : FuncData} (c_ends_of : Cal P w K mg base 1 "ends_of" ["statement"] (spEnds K) f_ends_of d_ends_of) : FnOk P w K mg base (L2.CX P w) 3 f fd ["statement", "ends", "counts"] (spChkS K CS) := by
  refine F.okX sc_check_statement (fun vs H Q E h => ?_) (fun cdv A outer s H vs Q E hr h => ?_)
  · obtain ⟨v, e, c, x, ends, cs, rfl, _⟩ := h
    rfl
  · obtain ⟨v, e, c, x, ends, cs, rfl, hat, he, hc, few, k1, k2⟩ := h
    obtain ⟨p, r, rfl, hp⟩ := stm_kind hat
    refine ⟨_, (Evl.pss_cut (ps_if (PW.pt (pw_and (pt_cmpR op_eq (pe_ix ix_tup (pv 0) pe_int (fun _ _ => rfl)) pe_str (nomark _)) (pw_and1 (pt_not (pt_val (pe_call c_is_right_call.G (hr.mono (by decide)) (by rfl) c_is_right_call.m c_is_right_call.k c_is_right_call.b .nil pass0 (pa_cons (pv 0) (pa_cons (pv 2) pa_nil)))))))) (pss_one (ps_raise rfl (takes_of rfl rfl rfl rfl) (pmk_oex O_InvalidScore.T O_InvalidScore.iC O_InvalidScore.tI O_InvalidScore.G (hr.mono (by decide)) O_InvalidScore.b .nil pass0 (by rfl) O_InvalidScore.m (pa_cons pe_str pa_nil)))) pss_nil)
      (Evl.pss_cut (ps_for (passes_of rfl) rfl (pi_tup (pe_call c_ends_of.G (hr.mono (by decide)) (by rfl) c_ends_of.m c_ends_of.k c_ends_of.b .nil pass0 (pa_cons (pv 0) pa_nil))) (pg_name (i := 3) sc_check_statement.nd rfl (.inl rfl)) (pss_one (ps_if (pt_cmpR op_notIn_seq (pv 3) (pv 1) (by rfl)) (pss_one (ps_raise rfl (takes_of rfl rfl rfl rfl) (pmk_oex O_InvalidScore.T O_InvalidScore.iC O_InvalidScore.tI O_InvalidScore.G (hr.mono (by decide)) O_InvalidScore.b .nil pass0 (by rfl) O_InvalidScore.m (pa_cons pe_str pa_nil)))) pss_nil)))
      (pss_one (ps_if (PW.pt (pw_and (pt_cmpR op_eq (pe_ix ix_tup (pv 0) pe_int (fun _ _ => rfl)) pe_str (nomark _)) (pw_and1 (pt_cmpR op_eq (pe_ix ix_tup (pv 0) pe_int (fun _ _ => rfl)) (pe_ix ix_tup (pv 0) pe_int (fun _ _ => rfl)) (nomark _))))) (pss_one (ps_raise rfl (takes_of rfl rfl rfl rfl) (pmk_oex O_InvalidScore.T O_InvalidScore.iC O_InvalidScore.tI O_InvalidScore.G (hr.mono (by decide)) O_InvalidScore.b .nil pass0 (by rfl) O_InvalidScore.m (pa_cons pe_str pa_nil)))) pss_nil)))), ?_⟩
    refine ⟨fun σ H' => σ = [some (.ref p), some (.ref e), some (.ref c), none] ∧ H' = H ∧ ¬ badCall cs x = true, ?_, ?_⟩
    · refine ⟨_, rfl, p, _, _, _, rfl, rfl, SqT.of hp, atI_nat (j := 0) rfl, rfl, _, rfl, ?_⟩
      cases x with
      | call q es =>
        refine iteDT rfl ⟨_, rfl, _, rfl, .ref p, c, cs, q, es, rfl, hat, hc, few, _, rfl, ?_⟩
        cases hb : rightC cs q es with
        | true => exact iteF ⟨rfl, rfl, by show ¬ (!rightC cs q es) = true; rw [hb]; decide⟩
        | false => exact iteT (mk_exc fun d H3 s3 _ hx => k2 _ (if_pos (show (!rightC cs q es) = true by rw [hb]; rfl)) d H3 s3 hx)
      | _ => exact iteDF (fun e => absurd (V.str.inj e) (by simp only [kindS]; decide +kernel)) (iteF ⟨rfl, rfl, by simp only [badCall]; decide⟩)
    rintro σ H1 ⟨rfl, rfl, nb⟩
    unfold stmRule at k1 k2
    rw [if_neg nb] at k1 k2
    refine ⟨fun σ H' => ∃ y, σ = [some (.ref p), some (.ref e), some (.ref c), y] ∧ Same H1 H' ∧ ¬ ∃ e ∈ endsS x, e ∉ ends, ?_, ?_⟩
    · refine ⟨_, rfl, .ref p, x, rfl, hat, fun q H2 s2 hq => ⟨q, rfl, ⟨_, SqT.of hq⟩, ?_⟩⟩
      refine for_tup (K := K) (a := q) (xs := (endsS x).map V.str) (fun i σ H' => ∃ y, σ = [some (.ref p), some (.ref e), some (.ref c), y] ∧ Same H2 H' ∧ ∀ e ∈ (endsS x).take i, e ∈ ends) ⟨_, rfl, fun _ _ h => h, fun q hq => by rw [List.take_zero] at hq; cases hq⟩ (fun i σ H' _ x => by obtain ⟨_, _, s, _⟩ := x; exact SqT.of (s _ _ hq)) ?_ ?_
      · rintro i z σ H3 hz ⟨y, rfl, s3, hno⟩
        rw [List.getElem?_map] at hz
        cases ez : (endsS x)[i]? with
        | none => rw [ez] at hz; cases hz
        | some en =>
          rw [ez] at hz
          cases hz
          refine ⟨_, rfl, _, rfl, e, _, rfl, .inr (SqT.of ((Same.trans s2 s3) _ _ he)), rfl, flat_strs ends, _, rfl, ?_⟩
          show if (!inV (V.str en) (ends.map V.str)) = true then _ else _
          rw [inV_str]
          by_cases ce : en ∈ ends
          · rw [decide_eq_true ce]
            refine iteF ⟨_, rfl, s3, fun q hq => ?_⟩
            rw [List.take_add_one, ez] at hq
            rcases List.mem_append.mp hq with hq | hq
            · exact hno q hq
            · rw [List.mem_singleton.mp hq]
              exact ce
          · rw [decide_eq_false ce]
            exact iteT (mk_exc fun d H4 s4 _ hx => k2 _ (if_pos ⟨en, List.mem_of_getElem? ez, ce⟩) d H4 (Same.trans (Same.trans s2 s3) s4) hx)
      · rintro σ H3 ⟨y, rfl, s3, hno⟩
        rw [List.length_map, List.take_length] at hno
        exact ⟨_, rfl, Same.trans s2 s3, fun ⟨q, hq, hn⟩ => hn (hno q hq)⟩
    rintro σ H2 ⟨y, rfl, s2, nu⟩
    rw [if_neg nu] at k1 k2
    have hat2 := At.keep s2 hat
    have hp2 := s2 _ _ hp
    refine ⟨_, rfl, p, _, _, _, rfl, rfl, SqT.of hp2, atI_nat (j := 0) rfl, rfl, _, rfl, ?_⟩
    cases x with
    | msg a b l v x =>
      unfold Stm.dt At at hat2
      obtain ⟨p2, vs, e2, hp3, hl⟩ := hat2
      cases e2
      simp only [AtL, At] at hl
      obtain ⟨_, _, rfl, rfl, _, _, rfl, rfl, _, _, rfl, rfl, _⟩ := hl
      refine iteDT rfl ⟨_, rfl, p, _, _, _, rfl, rfl, SqT.of hp3, atI_nat (j := 1) rfl, _, rfl, p, _, _, _, rfl, rfl, SqT.of hp3, atI_nat (j := 2) rfl, rfl, _, rfl, ?_⟩
      by_cases cs : a = b
      · exact iteDT (by rw [cs]) (mk_exc fun d H4 s4 _ hx => k2 _ (if_pos (decide_eq_true cs)) d H4 (Same.trans s2 s4) hx)
      · exact iteDF (fun z => cs (V.str.inj z)) (k1 (if_neg (fun z => cs (of_decide_eq_true z))) H2 s2)
    | _ => exact iteDF (fun e => absurd (V.str.inj e) (by simp only [kindS]; decide +kernel)) (iteF (k1 (if_neg (by simp only [selfM]; decide)) H2 s2))
end
end OS

namespace OS
open PySem PySem.Spec PyProof.Rows L2
def blkRule (cs : List (Str × Int)) (ends : List Str) (b : List Stm) : Option Str := (preB 0 b).findSome? fun p => stmRule cs ends p.1
def fewB (b : List Stm) : Prop := ∀ p ∈ preB 0 b, fewE p.1
section
variable {P : Program} {w : World} {K : PySem.W.Frag} {mg : Str → Option Value} {base : Heap} {CS : Addr} {f_err : Addr} {d_err : FuncData}
def spChkB (K : PySem.W.Frag) (CS : Addr) : Sp := fun vs H Q E => ∃ (v : V) (e c : Addr) (b : List Stm) (ends : List Str) (cs : List (Str × Int)), vs = [v, .ref e, .ref c] ∧ At K H (blkDt b) v ∧ H e = some (.tup (ends.map V.str)) ∧ H c = some (.dK (cntK cs)) ∧ fewB b ∧ nB b ≤ 10000 ∧ Chk CS (blkRule cs ends b) H Q E
theorem ok_check_block {f : Addr} {fd : FuncData} (F : Fun K "check_block" "check_block" s_check_block f fd) (T : Txt K mg) {f_check_statement : Addr} {d_check_statement : FuncData} (c_check_statement : CalX P w K mg base 3 "check_statement" ["statement", "ends", "counts"] (spChkS K CS) f_check_statement d_check_statement) {f_listed : Addr} {d_listed : FuncData} (c_listed : Cal P w K mg base 2 "listed" ["block"] (spLis K) f_listed d_listed) : FnOk P w K mg base (L2.CX P w) 4 f fd ["block", "ends", "counts"] (spChkB K CS) := by
  refine F.okX sc_check_block (fun vs H Q E h => ?_) (fun cdv A outer s H vs Q E hr h => ?_)
  · obtain ⟨v, e, c, b, ends, cs, rfl, _⟩ := h
    rfl
  · obtain ⟨v, e, c, b, ends, cs, rfl, hat, he, hc, few, nb, k1, k2⟩ := h
    refine ⟨_, (pss_one (ps_for (passes_of rfl) rfl (pi_list (pe_call c_listed.G (hr.mono (by decide)) (by rfl) c_listed.m c_listed.k c_listed.b .nil pass0 (pa_cons (pv 0) pa_nil))) (pg_tup (by rfl) (pgs_cons (pg_name (i := 3) sc_check_block.nd rfl (.inl rfl)) (pgs_cons (pg_name (i := 4) sc_check_block.nd rfl (.inl rfl)) pgs_nil))) (pss_one (ps_expr (pe_call c_check_statement.G (hr.mono (by decide)) (by rfl) c_check_statement.m c_check_statement.k c_check_statement.b .nil (passE (takes_of rfl rfl rfl rfl)) (pa_cons (pv 3) (pa_cons (pv 1) (pa_cons (pv 2) pa_nil)))))))), ?_⟩
    refine ⟨_, rfl, v, b, rfl, hat, nb, fun p us H1 s1 hp hA => ⟨p, rfl, ⟨_, SqL.of hp⟩, ?_⟩⟩
    have lus := hA.length
    rw [List.length_map] at lus
    refine for_list (K := K) (a := p) (xs := us) (fun i σ H' => ∃ y z, σ = [some v, some (.ref e), some (.ref c), y, z] ∧ Same H1 H' ∧ ((preB 0 b).take i).findSome? (fun p => stmRule cs ends p.1) = none) ⟨_, _, rfl, fun _ _ h => h, by rw [List.take_zero]; rfl⟩ (fun i σ H' _ x => by obtain ⟨_, _, _, s, _⟩ := x; exact SqL.of (s _ _ hp)) ?_ ?_
    · rintro i x σ H2 hx ⟨y, z, rfl, s2, hno⟩
      have hi : i < (preB 0 b).length := by
        have := (List.getElem?_eq_some_iff.mp hx).1
        omega
      obtain ⟨v2, e1, e2⟩ := hA.get (i := i) (d := pairD (preB 0 b)[i]) (by rw [List.getElem?_map, List.getElem?_eq_getElem hi]; rfl)
      rw [hx] at e1
      cases e1
      obtain ⟨a, sv, rfl, ha, hst⟩ := pair_at.mp (At.keep s2 e2)
      refine ⟨a, _, rfl, SqT.of ha, rfl, _, _, rfl, _, _, rfl, rfl, ?_⟩
      refine ⟨_, rfl, _, rfl, _, rfl, sv, e, c, _, ends, cs, rfl, hst, (s1.trans s2) _ _ he, (s1.trans s2) _ _ hc, few _ (List.getElem_mem hi), ?_, ?_⟩
      · intro hr H3 s3
        refine ⟨_, _, rfl, s2.trans s3, ?_⟩
        rw [List.take_add_one, List.getElem?_eq_getElem hi, List.findSome?_append, hno]
        show Option.or none (List.findSome? _ [(preB 0 b)[i]]) = none
        simp [hr]
      · intro z hr d H3 s3 hx
        refine k2 z ?_ d H3 ((s1.trans s2).trans s3) hx
        unfold blkRule
        rw [← List.take_append_drop i (preB 0 b), List.findSome?_append, hno, List.drop_eq_getElem_cons hi, Option.none_or, List.findSome?_cons]
        simp only [hr]
    · rintro σ H2 ⟨y, z, rfl, s2, hno⟩
      rw [lus, List.take_length] at hno
      exact k1 hno H2 (s1.trans s2)
end
end OS

/-! Dicts with texts as keys, told by their keys and a function; comprehensions over anything that is walked. -/
namespace OS
open PySem PySem.Spec PyProof.Rows L2
def kf (ns : List Str) (f : Str → V) : List (Key × V) := ns.map fun n => ((Sum.inr n : Key), f n)
def setF (f : Str → V) (n : Str) (v : V) : Str → V := fun m => if m = n then v else f m
theorem setF_at {f : Str → V} {n : Str} {v : V} : setF f n v n = v := if_pos rfl
theorem setF_ne {f : Str → V} {n m : Str} {v : V} (h : m ≠ n) : setF f n v m = f m := if_neg h
theorem kf_len (ns : List Str) (f : Str → V) : (kf ns f).length = ns.length := List.length_map ..
theorem kf_in {f : Str → V} {n : Str} : ∀ {ns : List Str}, n ∈ ns → valV (kf ns f) (Sum.inr n) = some (f n)
  | [], h => by cases h
  | a :: r, h => by
    by_cases e : a = n
    · subst e
      exact valV_pos rfl
    · refine (valV_neg (fun z => e (by injection z))).trans (kf_in ?_)
      rcases List.mem_cons.mp h with h | h
      · exact absurd h.symm e
      · exact h
theorem kf_out {f : Str → V} {n : Str} : ∀ {ns : List Str}, n ∉ ns → valV (kf ns f) (Sum.inr n) = none
  | [], h => rfl
  | a :: r, h => by
    refine (valV_neg (fun z => h ?_)).trans (kf_out fun z => h (List.mem_cons_of_mem _ z))
    injection z with z
    rw [z]
    exact List.mem_cons_self ..
theorem kf_congr {f g : Str → V} {ns : List Str} (h : ∀ n ∈ ns, f n = g n) : kf ns f = kf ns g := List.map_congr_left fun n hn => by rw [h n hn]
theorem kf_put {f : Str → V} {n : Str} {v : V} {ns : List Str} (h : n ∈ ns) : putK (kf ns f) (Sum.inr n) v = kf ns (setF f n v) := by
  unfold putK
  rw [valV_any, kf_in h]
  rw [if_pos (show (some (f n)).isSome = true from rfl)]
  unfold kf
  rw [List.map_map]
  refine List.map_congr_left fun m _ => ?_
  show (if (Sum.inr m : Key) = Sum.inr n then ((Sum.inr m : Key), v) else (Sum.inr m, f m)) = (Sum.inr m, setF f n v m)
  by_cases e : m = n
  · rw [if_pos (by rw [e]), e, setF_at]
  · rw [if_neg (fun z => e (by injection z)), setF_ne e]
theorem kf_new {f : Str → V} {n : Str} {v : V} {ns : List Str} (h : n ∉ ns) : putK (kf ns f) (Sum.inr n) v = kf (ns ++ [n]) (setF f n v) := by
  rw [putK_new _ (kf_out h)]
  unfold kf
  rw [List.map_append]
  have e : (ns.map fun m => ((Sum.inr m : Key), f m)) = ns.map fun m => ((Sum.inr m : Key), setF f n v m) := List.map_congr_left fun m hm => by rw [setF_ne fun z => h (by rw [← z]; exact hm)]
  rw [e]
  show _ ++ [((Sum.inr n : Key), v)] = _ ++ [((Sum.inr n : Key), setF f n v n)]
  rw [setF_at]
theorem kf_newF {f : Str → V} {n : Str} {ns : List Str} (h : n ∉ ns) : putK (kf ns f) (Sum.inr n) (f n) = kf (ns ++ [n]) f := by
  rw [kf_new h]
  refine kf_congr fun m _ => ?_
  by_cases e : m = n
  · rw [e, setF_at]
  · rw [setF_ne e]
theorem kf_key {f : Str → V} {ns : List Str} {i : Nat} {k : Key} {v : V} (h : (kf ns f)[i]? = some (k, v)) : ∃ n, ns[i]? = some n ∧ k = Sum.inr n ∧ v = f n := by
  unfold kf at h
  rw [List.getElem?_map] at h
  cases z : ns[i]? with
  | none => rw [z] at h; cases h
  | some n =>
    rw [z] at h
    injection h with h
    injection h with h1 h2
    exact ⟨n, rfl, h1.symm, h2.symm⟩
section
variable {J : It} {n : Nat} {G : Hp → Prop} {Y : Nat → Hp → V → Hp → Prop}
/-- a dict comprehension over what is walked -/
theorem dc_it (wl : Walk J n G Y) {g : TG} {tt : TT} {tk tv : TE} {vs : List Nat} {σ : L2.St} {H1 : Hp} {D : Addr} {Qd : Hp → Prop} (Pv : Nat → Hp → Prop) (z0 : Pv 0 (upd H1 D (.dK []))) (stays : ∀ i H, i ≤ n → Pv i H → G H)
    (turn : ∀ i x H H', i < n → Pv i H → Y i H x H' → g x (wipe σ vs) H' fun s2 H2 => wipe s2 vs = wipe σ vs ∧ tt s2 H2 fun b H3 =>
      if b = true then tk s2 H3 fun y H4 => tv s2 H4 fun z H5 => ∃ kvs k, y = kV k ∧ H5 D = some (.dK kvs) ∧ kvs.length < sizeLine ∧ Pv (i + 1) (upd H5 D (.dK (putK kvs k z))) else Pv (i + 1) H3) (fin : ∀ H, Pv n H → Qd H) :
    ∃ W : Nat → Nat → Hp → Prop, (∃ m, W 0 m (upd H1 D (.dK []))) ∧ ∀ i m H, W i m H →
      (J.stop i H ∧ Qd H) ∨ (J.go i H ∧ ∃ Nx : Hp → Prop, (∀ H', Nx H' → ∃ m', m' < m ∧ W (i + 1) m' H') ∧ ∀ x H', J.yld i H x H' → g x (wipe σ vs) H' fun s2 H2 => wipe s2 vs = wipe σ vs ∧ tt s2 H2 fun b H3 =>
        if b = true then tk s2 H3 fun y H4 => tv s2 H4 fun z H5 => ∃ kvs k, y = kV k ∧ H5 D = some (.dK kvs) ∧ kvs.length < sizeLine ∧ Nx (upd H5 D (.dK (putK kvs k z))) else Nx H3) := by
  refine ⟨fun i m H => i + m = n ∧ Pv i H, ⟨n, Nat.zero_add _, z0⟩, ?_⟩
  rintro i m H ⟨e, p⟩
  have sq := stays i H (by omega) p
  by_cases hlt : i < n
  · exact .inr ⟨wl.goes i H hlt sq, Pv (i + 1), fun H' p' => ⟨m - 1, by omega, by omega, p'⟩, fun x H' y => turn i x H H' hlt p (wl.yields i H x H' hlt sq y)⟩
  · have e : i = n := by omega
    subst e
    exact .inl ⟨wl.stops H sq, fin H p⟩
/-- a set comprehension of texts over what is walked -/
theorem sc_it (wl : Walk J n G Y) {P : Program} {w : World} {g : TG} {tt : TT} {te : TE} {vs : List Nat} {σ : L2.St} {H1 : Hp} {D : Addr} {Qd : Hp → Prop} (Pv : Nat → Hp → Prop) (z0 : Pv 0 (upd H1 D (SetSO P w D []))) (stays : ∀ i H, i ≤ n → Pv i H → G H)
    (turn : ∀ i x H H', i < n → Pv i H → Y i H x H' → g x (wipe σ vs) H' fun s2 H2 => wipe s2 vs = wipe σ vs ∧ tt s2 H2 fun b H3 =>
      if b = true then te s2 H3 fun y H4 => ∃ (k : Str) (ks : List Str), y = .str k ∧ H4 D = some (SetSO P w D ks) ∧ ks.length + 1 < scanBound ∧ Pv (i + 1) (upd H4 D (SetSO P w D (addK ks k))) else Pv (i + 1) H3) (fin : ∀ H, Pv n H → Qd H) :
    ∃ W : Nat → Nat → Hp → Prop, (∃ m, W 0 m (upd H1 D (SetSO P w D []))) ∧ ∀ i m H, W i m H →
      (J.stop i H ∧ Qd H) ∨ (J.go i H ∧ ∃ Nx : Hp → Prop, (∀ H', Nx H' → ∃ m', m' < m ∧ W (i + 1) m' H') ∧ ∀ x H', J.yld i H x H' → g x (wipe σ vs) H' fun s2 H2 => wipe s2 vs = wipe σ vs ∧ tt s2 H2 fun b H3 =>
        if b = true then te s2 H3 fun y H4 => ∃ (k : Str) (ks : List Str), y = .str k ∧ H4 D = some (SetSO P w D ks) ∧ ks.length + 1 < scanBound ∧ Nx (upd H4 D (SetSO P w D (addK ks k))) else Nx H3) := by
  refine ⟨fun i m H => i + m = n ∧ Pv i H, ⟨n, Nat.zero_add _, z0⟩, ?_⟩
  rintro i m H ⟨e, p⟩
  have sq := stays i H (by omega) p
  by_cases hlt : i < n
  · exact .inr ⟨wl.goes i H hlt sq, Pv (i + 1), fun H' p' => ⟨m - 1, by omega, by omega, p'⟩, fun x H' y => turn i x H H' hlt p (wl.yields i H x H' hlt sq y)⟩
  · have e : i = n := by omega
    subst e
    exact .inl ⟨wl.stops H sq, fin H p⟩
end
section
variable {X : Cx}
/-- y = a dict comprehension, y a name of this def alone -/
theorem ps_setDc {i : Nat} {y : Str} {py : Pos} {kx vx tg iter : Expr} {ifs : List Expr} {scope : Scope} {own : List (PySem.Str × Nat)} {pos spos : Pos} {wi : TI} {g : TG} {tt : TT} {tk tv : TE} (hc : X.calm = true) (hN : X.N.Nodup) (hy : X.N[i]? = some y) (hyl : X.env.scope.names.lookup y = some .local)
    (hsw : swapsWith (.DictComp kx vx [⟨tg, iter, ifs, 0⟩] scope pos) (some (.Name y py)) spos.line X.env = pure true) (hi : PI X tg iter wi) (ok : BlkOk X.N X.env.scope scope own)
    (hg : ∀ (s : Shared) (H : Hp) (C : Addr) (cl : List (PySem.Str × Addr)) (fp : List Addr), PG (X.blk s H scope (compEnvC scope cl C X.env) fp) tg g)
    (ht : ∀ (s : Shared) (H : Hp) (C : Addr) (cl : List (PySem.Str × Addr)) (fp : List Addr), PTs (X.blk s H scope (compEnvC scope cl C X.env) fp) ifs tt)
    (hk : ∀ (s : Shared) (H : Hp) (C : Addr) (cl : List (PySem.Str × Addr)) (fp : List Addr), PE (X.blk s H scope (compEnvC scope cl C X.env) fp) kx tk)
    (he : ∀ (s : Shared) (H : Hp) (C : Addr) (cl : List (PySem.Str × Addr)) (fp : List Addr), PE (X.blk s H scope (compEnvC scope cl C X.env) fp) vx tv)
    (hs : ∀ x, foldedSetIterable iter X.env x = pure x := by intro _; rfl) :
    PS X (.Assign [.Name y py] (.DictComp kx vx [⟨tg, iter, ifs, 0⟩] scope pos) spos) (tAsg (tDc wi g tt tk tv (own.map (·.2))) (gName i)) := by
  refine ⟨fun pins s σ H D I h => ?_⟩
  rw [exec_Assign_Name_used _ _ _ _ hsw]
  refine wpAny_bind (wpAny_standAt (wpAny_bind ?_))
  show wpAny _ X.A (do let _ ← comprehension (.DictComp kx vx [⟨tg, iter, ifs, 0⟩] scope pos) scope X.env (firstIterPos [⟨tg, iter, ifs, 0⟩] pos) newDict false (eval iter X.env) (some (assign (.Name y py) X.env))) _ _ s
  have h : tDc wi g tt tk tv (own.map (·.2)) σ H (fun x H1 => gName i x σ H1 D.nx) := h
  refine wpAny_bind (thn (dc_core (Qf := fun _ s' => SP X pins D .next s') hc hN I hi ok hg ht hk he hs h fun L C s' m H' I' q hn f => ?_) fun _ s' hq => wpAny_pure (wpAny_pure hq))
  show wpAny _ _ (assign (.Name y py) X.env (.ref L)) _ _ _
  refine wpAny_assign_Name (store_ok2 (v := V.ref L) I' hN hy (.inl hyl) rfl (fun s2 I2 ⟨a, sb, ha⟩ => ?_) (.inr hyl))
  obtain ⟨f0, f1, f2, f3, f4, f5⟩ := f
  have haC : C ≠ a := by
    rcases ha with z | z
    · rw [z]; exact f1
    · exact fun e => f4 y a z e.symm
  refine ⟨m, hn.sameBut sb haC, fun h3 sb3 => ?_⟩
  exact ⟨_, H', I2.turned (t' := s2.toks) (fun b o hb e => (sb3.2 b hb).trans e) f0 f1 f3 f4 f5, q⟩
theorem swD_true {kx vx : Expr} {gs : List Comprehension} {scope : Scope} {pos py : Pos} {y : Str} {l : Nat} {env : Env} (hk : env.scope.kind = .function) (hy : env.scope.names.lookup y = some .local) (hl : (py.line == pos.line) = true)
    (ha : (scope.names.any fun (n, k) => n == y && (k == .local || k == .cell)) = false) : swapsWith (.DictComp kx vx gs scope pos) (some (.Name y py)) l env = pure true := by
  have ky : env.kindOf y = some .local := hy
  have hb : env.blockKind = .function := by unfold Env.blockKind; rw [hk]; rfl
  unfold swapsWith
  simp only [hb, ky, ha, Expr.pos, hl]
  rfl
end
end OS

/-! Circles among names, and Kahn's order (plain mathematics; as OS24, OS24k for numbers). -/
namespace OS.Kn
open PySem
/-! ### circles -/
/-- one step or more -/
inductive Pth (q : Str → List Str) : Str → Str → Prop
  | one {a b : Str} : b ∈ q a → Pth q a b
  | cons {a b c : Str} : b ∈ q a → Pth q b c → Pth q a c
theorem Pth.snoc {q : Str → List Str} {a b c : Str} (h : Pth q a b) (hc : c ∈ q b) : Pth q a c := by
  induction h with
  | one h => exact .cons h (.one hc)
  | cons h _ ih => exact .cons h (ih hc)
theorem Pth.trans {q : Str → List Str} {a b c : Str} (h : Pth q a b) (h2 : Pth q b c) : Pth q a c := by
  induction h with
  | one h => exact .cons h h2
  | cons h _ ih => exact .cons h (ih h2)
theorem Pth.last {q : Str → List Str} {a c : Str} (h : Pth q a c) : ∃ b, (b = a ∨ Pth q a b) ∧ c ∈ q b := by
  induction h with
  | one h => exact ⟨_, .inl rfl, h⟩
  | cons h _ ih =>
    obtain ⟨b, e, hb⟩ := ih
    rcases e with rfl | e
    · exact ⟨_, .inr (.one h), hb⟩
    · exact ⟨_, .inr (.cons h e), hb⟩
def Circ (R : List Str) (q : Str → List Str) : Prop := ∃ a ∈ R, Pth q a a
/-- processed places: each one's places before it are processed ahead of it -/
def Topo (R : List Str) (q : Str → List Str) (P : List Str) : Prop := ∀ (j : Nat) (b : Str), P[j]? = some b → ∀ a ∈ R, b ∈ q a → ∃ i : Nat, i < j ∧ P[i]? = some a
theorem topo_path {R : List Str} {q : Str → List Str} {P : List Str} (hq : ∀ a ∈ R, ∀ b ∈ q a, b ∈ R) (nd : P.Nodup) (t : Topo R q P) {a b : Str} (h : Pth q a b) : a ∈ R → ∀ (j : Nat), P[j]? = some b → ∃ i : Nat, i < j ∧ P[i]? = some a := by
  induction h with
  | one hb => exact fun ha j hj => t j _ hj _ ha hb
  | cons hb _ ih =>
    intro ha j hj
    obtain ⟨i, hi, e⟩ := ih (hq _ ha _ hb) j hj
    obtain ⟨k, hk, e2⟩ := t i _ e _ ha hb
    exact ⟨k, by omega, e2⟩
theorem topo_none {R : List Str} {q : Str → List Str} {P : List Str} (hq : ∀ a ∈ R, ∀ b ∈ q a, b ∈ R) (nd : P.Nodup) (t : Topo R q P) (hall : ∀ a ∈ R, a ∈ P) : ¬ Circ R q := by
  rintro ⟨a, ha, p⟩
  obtain ⟨j, hj⟩ := List.mem_iff_getElem?.mp (hall a ha)
  obtain ⟨i, hi, e⟩ := topo_path hq nd t p ha j hj
  have h1 := (List.getElem?_eq_some_iff.mp hj)
  have h2 := (List.getElem?_eq_some_iff.mp e)
  have := (List.getElem_inj (h₀ := h2.1) (h₁ := h1.1) nd).mp (h2.2.trans h1.2.symm)
  omega
/-- going backwards for ever within finitely many places comes back -/
theorem back_circ {q : Str → List Str} {S : List Str} (f : Str → Str) (hf : ∀ x ∈ S, f x ∈ S ∧ x ∈ q (f x)) {x : Str} (hx : x ∈ S) : ∃ a ∈ S, Pth q a a := by
  let it : Nat → Str := fun k => Nat.rec x (fun _ y => f y) k
  have hS : ∀ k, it k ∈ S := fun k => by
    induction k with
    | zero => exact hx
    | succ k ih => exact (hf _ ih).1
  have hp : ∀ k d, Pth q (it (k + d + 1)) (it k) := fun k d => by
    induction d with
    | zero => exact .one (hf _ (hS k)).2
    | succ d ih => exact .cons (hf _ (hS (k + d + 1))).2 ih
  have hnd : ¬ ((List.range (S.length + 1)).map it).Nodup := fun nd => by
    have s : (List.range (S.length + 1)).map it ⊆ S := fun y hy => by
      obtain ⟨k, _, rfl⟩ := List.mem_map.mp hy
      exact hS k
    have := List.Nodup.length_le_of_subset nd s
    rw [List.length_map, List.length_range] at this
    omega
  have : ∃ i j, i < j ∧ it i = it j := by
    refine Classical.byContradiction fun no => hnd ?_
    show List.Pairwise (· ≠ ·) _
    rw [List.pairwise_iff_getElem]
    intro i j hi hj hij e
    rw [List.getElem_map, List.getElem_map, List.getElem_range, List.getElem_range] at e
    exact no ⟨i, j, hij, e⟩
  obtain ⟨i, j, hij, e⟩ := this
  refine ⟨it i, hS i, ?_⟩
  have := hp i (j - i - 1)
  rw [show i + (j - i - 1) + 1 = j by omega, ← e] at this
  exact this
/-- steps to g from places that are not taken out -/
def cnt (q : Str → List Str) (g : Str) : List Str → List Str → Nat
  | [], _ => 0
  | a :: R, P => (if a ∈ P then 0 else (q a).count g) + cnt q g R P
section
variable {q : Str → List Str} {R P W rem : List Str} {bf : Str → Int} {x : Str}
theorem cnt_pos {g : Str} : ∀ {R P : List Str}, cnt q g R P ≠ 0 → ∃ a ∈ R, a ∉ P ∧ g ∈ q a
  | [], P, h => absurd rfl h
  | a :: R, P, h => by
    unfold cnt at h
    by_cases c : a ∈ P
    · rw [if_pos c, Nat.zero_add] at h
      obtain ⟨b, hb, h2⟩ := cnt_pos h
      exact ⟨b, List.mem_cons_of_mem _ hb, h2⟩
    · rw [if_neg c] at h
      by_cases e : (q a).count g = 0
      · rw [e, Nat.zero_add] at h
        obtain ⟨b, hb, h2⟩ := cnt_pos h
        exact ⟨b, List.mem_cons_of_mem _ hb, h2⟩
      · exact ⟨a, List.mem_cons_self .., c, List.count_pos_iff.mp (Nat.pos_of_ne_zero e)⟩
theorem cnt_zero {g : Str} : ∀ {R P : List Str}, cnt q g R P = 0 → ∀ a ∈ R, g ∈ q a → a ∈ P
  | [], P, _, a, h, _ => by cases h
  | b :: R, P, h, a, ha, hg => by
    unfold cnt at h
    rcases List.mem_cons.mp ha with rfl | ha
    · by_cases c : a ∈ P
      · exact c
      · rw [if_neg c] at h
        have := List.count_pos_iff.mpr hg
        omega
    · exact cnt_zero (by omega) a ha hg
theorem cnt_off {g : Str} : ∀ {R P : List Str}, x ∉ R → cnt q g R (P ++ [x]) = cnt q g R P
  | [], _, _ => rfl
  | a :: R, P, h => by
    unfold cnt
    rw [cnt_off fun z => h (List.mem_cons_of_mem _ z)]
    have e : a ≠ x := fun z => h (by rw [z]; exact List.mem_cons_self ..)
    by_cases c : a ∈ P
    · rw [if_pos c, if_pos (List.mem_append_left _ c)]
    · rw [if_neg c, if_neg (fun z => by
        rcases List.mem_append.mp z with z | z
        · exact c z
        · exact e (List.mem_singleton.mp z))]
theorem cnt_take {g : Str} : ∀ {R P : List Str}, R.Nodup → x ∈ R → x ∉ P → cnt q g R P = cnt q g R (P ++ [x]) + (q x).count g
  | [], _, _, h, _ => by cases h
  | a :: R, P, nd, h, hp => by
    rw [List.nodup_cons] at nd
    unfold cnt
    by_cases e : a = x
    · subst e
      rw [if_neg hp, if_pos (List.mem_append_right _ (List.mem_singleton.mpr rfl)), cnt_off nd.1]
      omega
    · have hx : x ∈ R := by
        rcases List.mem_cons.mp h with h | h
        · exact absurd h.symm e
        · exact h
      have ih := cnt_take (g := g) nd.2 hx hp
      by_cases c : a ∈ P
      · rw [if_pos c, if_pos (List.mem_append_left _ c), ih]
        omega
      · rw [if_neg c, if_neg (fun z => by
          rcases List.mem_append.mp z with z | z
          · exact c z
          · exact e (List.mem_singleton.mp z)), ih]
        omega
theorem cnt_nil {g : Str} : ∀ R : List Str, cnt q g R [] = ((R.map q).flatten).count g
  | [] => rfl
  | a :: R => by
    unfold cnt
    rw [if_neg (by simp), cnt_nil R, List.map_cons, List.flatten_cons, List.count_append]
structure KInv (R : List Str) (q : Str → List Str) (P W : List Str) (bf : Str → Int) : Prop where
  nd : (P ++ W).Nodup
  sub : ∀ x ∈ P ++ W, x ∈ R
  t : Topo R q P
  b : ∀ g ∈ R, bf g = (cnt q g R P : Nat)
  w : ∀ g ∈ R, bf g = 0 ↔ g ∈ P ∨ g ∈ W
/-- x is being taken out; rem: its steps that are still to be counted off -/
structure KMid (R : List Str) (q : Str → List Str) (P : List Str) (x : Str) (rem W : List Str) (bf : Str → Int) : Prop where
  nd : ((P ++ [x]) ++ W).Nodup
  sub : ∀ y ∈ (P ++ [x]) ++ W, y ∈ R
  t : Topo R q (P ++ [x])
  b : ∀ g ∈ R, bf g = (cnt q g R (P ++ [x]) + rem.count g : Nat)
  w : ∀ g ∈ R, bf g = 0 ↔ g ∈ P ++ [x] ∨ g ∈ W
theorem KInv.start (nd : R.Nodup) (h : ∀ g ∈ R, bf g = (((R.map q).flatten).count g : Nat)) : KInv R q [] (R.filter fun g => decide (bf g = 0)) bf where
  nd := nd.filter _
  sub := fun x hx => (List.mem_filter.mp hx).1
  t := fun j b hj => by simp at hj
  b := fun g hg => by rw [h g hg, cnt_nil]
  w := fun g hg => by
    constructor
    · intro e
      exact .inr (List.mem_filter.mpr ⟨hg, decide_eq_true e⟩)
    · rintro (e | e)
      · cases e
      · exact of_decide_eq_true (List.mem_filter.mp e).2
theorem KInv.mid (I : KInv R q P (W ++ [x]) bf) (ndR : R.Nodup) : KMid R q P x (q x) W bf := by
  have hx : x ∈ R := I.sub x (by simp)
  have nd := I.nd
  have perm : ((P ++ [x]) ++ W).Perm (P ++ (W ++ [x])) := by
    rw [List.append_assoc]
    exact List.Perm.append_left _ List.perm_append_comm
  have hxP : x ∉ P := fun hp => (List.nodup_append.mp nd).2.2 x hp x (by simp) rfl
  have b0 : bf x = 0 := (I.w x hx).mpr (.inr (by simp))
  have c0 : cnt q x R P = 0 := by
    have := I.b x hx
    omega
  refine ⟨perm.nodup_iff.mpr nd, fun y hy => I.sub y (perm.mem_iff.mp hy), fun j b hj a ha hab => ?_, fun g hg => ?_, fun g hg => ?_⟩
  · by_cases hl : j < P.length
    · rw [List.getElem?_append_left hl] at hj
      obtain ⟨i, hi, e⟩ := I.t j b hj a ha hab
      exact ⟨i, hi, by rw [List.getElem?_append_left (by omega)]; exact e⟩
    · have h1 := (List.getElem?_eq_some_iff.mp hj).1
      rw [List.length_append, List.length_singleton] at h1
      have e : j = P.length := by omega
      subst e
      rw [List.getElem?_append_right (Nat.le_refl _), Nat.sub_self] at hj
      have e2 : x = b := Option.some.inj hj
      subst e2
      obtain ⟨i, hi⟩ := List.mem_iff_getElem?.mp (cnt_zero c0 a ha hab)
      have h2 := (List.getElem?_eq_some_iff.mp hi).1
      exact ⟨i, h2, by rw [List.getElem?_append_left h2]; exact hi⟩
  · rw [I.b g hg, cnt_take ndR hx hxP]
  · rw [I.w g hg]
    simp only [List.mem_append, List.mem_singleton]
    constructor
    · rintro (h | h | h)
      · exact .inl (.inl h)
      · exact .inr h
      · exact .inl (.inr h)
    · rintro ((h | h) | h)
      · exact .inl h
      · exact .inr (.inr h)
      · exact .inr (.inl h)
/-- a step is counted off -/
theorem KMid.pos {y : Str} (I : KMid R q P x (y :: rem) W bf) (hy : y ∈ R) : 1 ≤ bf y ∧ y ∉ P ++ [x] ∧ y ∉ W := by
  have b := I.b y hy
  rw [List.count_cons_self] at b
  have n0 : ¬ bf y = 0 := by omega
  exact ⟨by omega, fun h => n0 ((I.w y hy).mpr (.inl h)), fun h => n0 ((I.w y hy).mpr (.inr h))⟩
def dec1 (bf : Str → Int) (y : Str) : Str → Int := fun g => if g = y then bf y - 1 else bf g
theorem KMid.next {y : Str} (I : KMid R q P x (y :: rem) W bf) (hy : y ∈ R) (h : bf y - 1 ≠ 0) : KMid R q P x rem W (dec1 bf y) := by
  obtain ⟨p1, p2, p3⟩ := I.pos hy
  refine ⟨I.nd, I.sub, I.t, fun g hg => ?_, fun g hg => ?_⟩
  · have b := I.b g hg
    unfold dec1
    by_cases e : g = y
    · subst e
      rw [if_pos rfl]
      rw [List.count_cons_self] at b
      omega
    · rw [if_neg e, b, List.count_cons_of_ne (fun z => e z.symm)]
  · unfold dec1
    by_cases e : g = y
    · subst e
      rw [if_pos rfl]
      exact ⟨fun z => absurd z h, fun z => z.elim (fun z => absurd z p2) fun z => absurd z p3⟩
    · rw [if_neg e]
      exact I.w g hg
theorem KMid.take {y : Str} (I : KMid R q P x (y :: rem) W bf) (hy : y ∈ R) (h : bf y - 1 = 0) : KMid R q P x rem (W ++ [y]) (dec1 bf y) := by
  obtain ⟨p1, p2, p3⟩ := I.pos hy
  refine ⟨?_, ?_, I.t, fun g hg => ?_, fun g hg => ?_⟩
  · rw [← List.append_assoc, List.nodup_append]
    refine ⟨I.nd, by simp, fun a ha b hb => ?_⟩
    rintro rfl
    rw [List.mem_singleton.mp hb] at ha
    rcases List.mem_append.mp ha with ha | ha
    · exact p2 ha
    · exact p3 ha
  · intro a ha
    rw [← List.append_assoc] at ha
    rcases List.mem_append.mp ha with ha | ha
    · exact I.sub a ha
    · rw [List.mem_singleton.mp ha]
      exact hy
  · have b := I.b g hg
    unfold dec1
    by_cases e : g = y
    · subst e
      rw [if_pos rfl]
      rw [List.count_cons_self] at b
      omega
    · rw [if_neg e, b, List.count_cons_of_ne (fun z => e z.symm)]
  · unfold dec1
    by_cases e : g = y
    · subst e
      rw [if_pos rfl]
      exact ⟨fun _ => .inr (by simp), fun _ => h⟩
    · rw [if_neg e, I.w g hg]
      simp only [List.mem_append, List.mem_singleton]
      constructor
      · rintro (z | z)
        · exact .inl z
        · exact .inr (.inl z)
      · rintro (z | z | z)
        · exact .inl z
        · exact .inr z
        · exact absurd z e
theorem KMid.done (I : KMid R q P x [] W bf) : KInv R q (P ++ [x]) W bf :=
  ⟨I.nd, I.sub, I.t, fun g hg => by rw [I.b g hg]; rfl, I.w⟩
theorem sub_len (nd : P.Nodup) (hs : ∀ x ∈ P, x ∈ R) : P.length ≤ R.length := List.Nodup.length_le_of_subset nd hs
theorem KInv.len (I : KInv R q P W bf) : P.length + W.length ≤ R.length := by
  have := sub_len I.nd I.sub
  rwa [List.length_append] at this
/-- what is left over at the end is a circle, or nothing is -/
theorem KInv.circ (I : KInv R q P [] bf) (ndR : R.Nodup) (hq : ∀ a ∈ R, ∀ b ∈ q a, b ∈ R) : Circ R q ↔ P.length < R.length := by
  have ndP : P.Nodup := (List.nodup_append.mp I.nd).1
  have hsub : ∀ x ∈ P, x ∈ R := fun x hx => I.sub x (List.mem_append_left _ hx)
  constructor
  · intro c
    refine Nat.lt_of_not_le fun hle => topo_none hq ndP I.t (fun a ha => ?_) c
    refine Classical.byContradiction fun hn => ?_
    have := sub_len (P := a :: P) (R := R) (List.nodup_cons.mpr ⟨hn, ndP⟩) fun y hy => by
      rcases List.mem_cons.mp hy with rfl | hy
      · exact ha
      · exact hsub y hy
    rw [List.length_cons] at this
    omega
  · intro hlt
    have pre : ∀ g, g ∈ R → g ∉ P → ∃ a, a ∈ R ∧ a ∉ P ∧ g ∈ q a := fun g hg hn => by
      have n0 : ¬ bf g = 0 := fun z => by
        rcases (I.w g hg).mp z with z | z
        · exact hn z
        · cases z
      have b := I.b g hg
      obtain ⟨a, h1, h2, h3⟩ := cnt_pos (q := q) (g := g) (R := R) (P := P) (by omega)
      exact ⟨a, h1, h2, h3⟩
    have ex : ∃ g ∈ R, g ∉ P := by
      refine Classical.byContradiction fun no => ?_
      have := sub_len (P := R) (R := P) ndR fun x hx => Classical.byContradiction fun hn => no ⟨x, hx, hn⟩
      omega
    obtain ⟨g, hg, hn⟩ := ex
    have ch : ∃ f : Str → Str, ∀ g, g ∈ R → g ∉ P → f g ∈ R ∧ f g ∉ P ∧ g ∈ q (f g) := by
      refine ⟨fun g => if h : g ∈ R ∧ g ∉ P then Classical.choose (pre g h.1 h.2) else g, fun g h1 h2 => ?_⟩
      have hh : g ∈ R ∧ g ∉ P := ⟨h1, h2⟩
      simp only [dif_pos hh]
      exact Classical.choose_spec (pre g h1 h2)
    obtain ⟨f, hf⟩ := ch
    obtain ⟨a, ha, p⟩ := back_circ (q := q) (S := R.filter fun g => decide (g ∉ P)) f (fun y hy => by
      obtain ⟨h1, h2⟩ := List.mem_filter.mp hy
      obtain ⟨f1, f2, f3⟩ := hf y h1 (of_decide_eq_true h2)
      exact ⟨List.mem_filter.mpr ⟨f1, decide_eq_true f2⟩, f3⟩) (x := g) (List.mem_filter.mpr ⟨hg, decide_eq_true hn⟩)
    exact ⟨a, (List.mem_filter.mp ha).1, p⟩
end
end OS.Kn

namespace OS
open PySem PySem.Spec PyProof.Rows L2
/-! ### sizes of played out blocks -/
def callS : Stm → Option Str
  | .call p _ => some p
  | _ => none
def callsB (b : List Stm) : List Str := (preB 0 b).filterMap fun p => callS p.1
def szStep (f : Str → Nat × Nat) (acc : Nat × Nat) (p : Stm × Nat) : Nat × Nat :=
  match p.1 with
  | .call q _ => (acc.1 + (f q).1, max acc.2 (p.2 + (f q).2))
  | .whl _ _ _ => (acc.1 + 1, max acc.2 (p.2 + 1))
  | _ => (acc.1 + 1, max acc.2 p.2)
def measB (f : Str → Nat × Nat) (b : List Stm) : Nat × Nat := (preB 0 b).foldl (szStep f) (0, 0)
theorem measL_congr {f g : Str → Nat × Nat} : ∀ (l : List (Stm × Nat)) (acc : Nat × Nat), (∀ q ∈ l.filterMap (fun p => callS p.1), f q = g q) → l.foldl (szStep f) acc = l.foldl (szStep g) acc
  | [], _, _ => rfl
  | p :: r, acc, h => by
    have e : szStep f acc p = szStep g acc p := by
      cases hp : p.1 with
      | call q es =>
        have := h q (by rw [List.filterMap_cons]; simp [hp, callS])
        simp only [szStep, hp, this]
      | _ => simp only [szStep, hp]
    rw [List.foldl_cons, List.foldl_cons, e]
    refine measL_congr r _ (fun q hq => h q ?_)
    rw [List.filterMap_cons]
    split
    · exact hq
    · exact List.mem_cons_of_mem _ hq
theorem measB_congr {f g : Str → Nat × Nat} {b : List Stm} (h : ∀ q ∈ callsB b, f q = g q) : measB f b = measB g b := measL_congr _ _ h
/-- this dict has the two numbers of each of these names -/
def SzOn (H : Hp) (kvs : List (Key × V)) (f : Str → Nat × Nat) (q : Str) : Prop := ∃ a, valV kvs (Sum.inr q) = some (.ref a) ∧ H a = some (.tup [.int (f q).1, .int (f q).2])
section
variable {P : Program} {w : World} {K : PySem.W.Frag} {mg : Str → Option Value} {base : Heap}
def spPlay (K : PySem.W.Frag) : Sp := fun vs H Q _ => ∃ (v : V) (c : Addr) (b : List Stm) (f : Str → Nat × Nat) (kvs : List (Key × V)), vs = [v, .ref c] ∧ At K H (blkDt b) v ∧ H c = some (.dK kvs) ∧ nB b ≤ 10000 ∧ (∀ q ∈ callsB b, SzOn H kvs f q) ∧
  ∀ p H', Same H H' → H p = none → H' p = some (.tup [.int (measB f b).1, .int (measB f b).2]) → Q (.ref p) H'
theorem max_nat (a b : Nat) : (if ((b : Nat) : Int) > (a : Nat) then ((b : Nat) : Int) else (a : Nat)) = ((max a b : Nat) : Int) := by
  by_cases h : ((b : Nat) : Int) > (a : Nat)
  · rw [if_pos h]; omega
  · rw [if_neg h]; omega
theorem ok_played_size {f : Addr} {fd : FuncData} (F : Fun K "played_size" "played_size" s_played_size f fd) (T : Txt K mg) {f_listed : Addr} {d_listed : FuncData} (c_listed : Cal P w K mg base 2 "listed" ["block"] (spLis K) f_listed d_listed) : FnOk P w K mg base CX0 3 f fd ["block", "sizes"] (spPlay K) := by
  refine F.ok sc_played_size (fun vs H Q E h => ?_) (fun cdv A outer s H vs Q E hr h => ?_)
  · obtain ⟨v, c, b, f, kvs, rfl, _⟩ := h
    rfl
  · obtain ⟨v, c, b, fz, kvs, rfl, hat, hc, nb, hsz, k⟩ := h
    have hu := hu_of hr
    refine ⟨_, (pss_cons (ps_set (i := 2) sc_played_size.nd rfl (.inl rfl) pe_int)
      (pss_cons (ps_set (i := 3) sc_played_size.nd rfl (.inl rfl) pe_int)
      (pss_cons (ps_for PassesOwn.never rfl (pi_list (pe_call c_listed.G (hr.mono (by decide)) (by rfl) c_listed.m c_listed.k c_listed.b .nil pass0 (pa_cons (pv 0) pa_nil))) (pg_tup (by rfl) (pgs_cons (pg_name (i := 4) sc_played_size.nd rfl (.inl rfl)) (pgs_cons (pg_name (i := 5) sc_played_size.nd rfl (.inl rfl)) pgs_nil))) (pss_one (ps_if (pt_cmpR op_eq (pe_ix ix_tup (pv 4) pe_int (fun _ _ => rfl)) pe_str (nomark _)) (pss_cons (ps_asg (pe_dget hu (pv 1) (pe_ix ix_tup (pv 4) pe_int (fun _ _ => rfl)) (fun _ _ => rfl)) (pg_tup (by rfl) (pgs_cons (pg_name (i := 6) sc_played_size.nd rfl (.inl rfl)) (pgs_cons (pg_name (i := 7) sc_played_size.nd rfl (.inl rfl)) pgs_nil))))
      (pss_cons (ps_aug (i := 2) sc_played_size.nd rfl (.inl rfl) (pv 6) ip_add)
      (pss_one (ps_set (i := 3) sc_played_size.nd rfl (.inl rfl) (pe_callB (call_max2 (by rfl)) (by rfl) T.max (by decide +kernel) (pa_cons (pv 3) (pa_cons (pe_op op_add (pv 5) (pv 7)) pa_nil))))))) (pss_cons (ps_aug (i := 2) sc_played_size.nd rfl (.inl rfl) pe_int ip_add)
      (pss_one (ps_set (i := 3) sc_played_size.nd rfl (.inl rfl) (pe_callB (call_max2 (by rfl)) (by rfl) T.max (by decide +kernel) (pa_cons (pv 3) (pa_cons (pe_ifExp (pt_cmpR op_eq (pe_ix ix_tup (pv 4) pe_int (fun _ _ => rfl)) pe_str (nomark _)) (pe_op op_add (pv 5) pe_int) (pv 5)) pa_nil)))))))))
      (pss_one (ps_ret (pe_tup (pa_cons (pv 2) (pa_cons (pv 3) pa_nil)))))))), ?_⟩
    refine ⟨_, rfl, v, b, rfl, hat, nb, fun p us H1 s1 hp hA => ⟨p, rfl, ⟨_, SqL.of hp⟩, ?_⟩⟩
    have lus := hA.length
    rw [List.length_map] at lus
    refine for_list (K := K) (a := p) (xs := us) (fun i σ H' => ∃ (acc : Nat × Nat) (y4 y5 y6 y7 : Option V), σ = [some v, some (.ref c), some (.int (acc.1 : Nat)), some (.int (acc.2 : Nat)), y4, y5, y6, y7] ∧ Same H1 H' ∧ acc = ((preB 0 b).take i).foldl (szStep fz) (0, 0)) ⟨(0, 0), _, _, _, _, rfl, fun _ _ h => h, by rw [List.take_zero]; rfl⟩ (fun i σ H' _ x => by obtain ⟨_, _, _, _, _, _, s, _⟩ := x; exact SqL.of (s _ _ hp)) ?_ ?_
    · rintro i x σ H2 hx ⟨acc, y4, y5, y6, y7, rfl, s2, ea⟩
      have hi : i < (preB 0 b).length := by
        have := (List.getElem?_eq_some_iff.mp hx).1
        omega
      obtain ⟨v2, e1, e2⟩ := hA.get (i := i) (d := pairD (preB 0 b)[i]) (by rw [List.getElem?_map, List.getElem?_eq_getElem hi]; rfl)
      rw [hx] at e1
      cases e1
      obtain ⟨a, sv, rfl, ha, hst⟩ := pair_at.mp (At.keep s2 e2)
      have et : ((preB 0 b).take (i + 1)).foldl (szStep fz) (0, 0) = szStep fz acc (preB 0 b)[i] := by
        rw [List.take_add_one, List.getElem?_eq_getElem hi, List.foldl_append, ← ea]
        rfl
      rw [et]
      refine ⟨a, _, rfl, SqT.of ha, rfl, _, _, rfl, _, _, rfl, rfl, ?_⟩
      have hmem := List.getElem_mem hi
      generalize (preB 0 b)[i] = pr at hst hmem
      obtain ⟨st, l⟩ := pr
      obtain ⟨q, r, rfl, hq⟩ := stm_kind hst
      refine ⟨_, rfl, q, _, _, _, rfl, rfl, SqT.of hq, atI_nat (j := 0) rfl, rfl, _, rfl, ?_⟩
      cases st with
      | call cn es =>
        have hst2 := hst
        unfold Stm.dt At at hst2
        obtain ⟨q2, vs2, e2, hq2, hl⟩ := hst2
        cases e2
        simp only [AtL] at hl
        obtain ⟨w0, _, rfl, h0, w1, _, rfl, h1, _⟩ := hl
        unfold At at h0 h1
        subst h0 h1
        obtain ⟨sa, hsa, hta⟩ := hsz cn (List.mem_filterMap.mpr ⟨_, hmem, rfl⟩)
        have hc2 := (s1.trans s2) _ _ hc
        have hta2 := (s1.trans s2) _ _ hta
        have dg : DGet H2 c (.str cn) (some (.ref sa)) := by
          have := DGet.k (k := Sum.inr cn) hc2
          rw [hsa] at this
          exact this
        refine iteDT rfl ⟨_, rfl, _, rfl, q, _, _, _, rfl, rfl, SqT.of hq2, atI_nat (j := 1) rfl, c, _, rfl, dg, sa, _, rfl, SqT.of hta2, rfl, _, _, rfl, _, _, rfl, rfl, ?_⟩
        refine ⟨_, rfl, _, rfl, _, _, rfl, rfl, _, rfl, _, rfl, _, rfl, _, _, rfl, rfl, _, _, rfl, ?_⟩
        refine ⟨(acc.1 + (fz cn).1, max acc.2 (l + (fz cn).2)), some (.ref q), some (.int (l : Nat)), some (.int ((fz cn).1 : Nat)), some (.int ((fz cn).2 : Nat)), ?_, s2, rfl⟩
        rw [← max_nat]
        rfl
      | whl e vv bb =>
        refine iteDF (fun e => absurd (V.str.inj e) (by simp only [kindS]; decide +kernel)) ⟨_, rfl, _, _, rfl, rfl, _, rfl, ?_⟩
        refine ⟨_, rfl, q, _, _, _, rfl, rfl, SqT.of hq, atI_nat (j := 0) rfl, rfl, _, rfl, iteDT rfl ⟨_, rfl, _, _, rfl, rfl, _, _, rfl, ?_⟩⟩
        refine ⟨(acc.1 + 1, max acc.2 (l + 1)), some (.ref q), some (.int (l : Nat)), y6, y7, ?_, s2, rfl⟩
        rw [← max_nat]
        rfl
      | _ =>
        refine iteDF (fun e => absurd (V.str.inj e) (by simp only [kindS]; decide +kernel)) ⟨_, rfl, _, _, rfl, rfl, _, rfl, ?_⟩
        refine ⟨_, rfl, q, _, _, _, rfl, rfl, SqT.of hq, atI_nat (j := 0) rfl, rfl, _, rfl, iteDF (fun e => absurd (V.str.inj e) (by simp only [kindS]; decide +kernel)) ⟨_, rfl, _, _, rfl, ?_⟩⟩
        refine ⟨(acc.1 + 1, max acc.2 l), some (.ref q), some (.int (l : Nat)), y6, y7, ?_, s2, rfl⟩
        rw [← max_nat]
        rfl
    · rintro σ H2 ⟨acc, y4, y5, y6, y7, rfl, s2, ea⟩
      rw [lus, List.take_length] at ea
      refine ⟨_, rfl, _, rfl, by show 2 ≤ sizeLine; decide, fun t ht => k t _ ((s1.trans s2).trans (same_upd ht)) ((s1.trans s2).free ht) ?_⟩
      rw [upd_same]
      subst ea
      rfl
end
end OS

namespace OS
open PySem PySem.Spec PyProof.Rows L2
/-! ### sizes of parts -/
def namesP (parts : List Prt) : List Str := parts.map (·.name)
/-- the parts that call this one -/
def callersP (parts : List Prt) (a : Str) : List Str := (parts.filter fun p => decide (a ∈ callsB p.body)).map (·.name)
inductive Siz (parts : List Prt) : Str → Nat × Nat → Prop
  | mk {p : Prt} {f : Str → Nat × Nat} : p ∈ parts → (∀ q ∈ callsB p.body, Siz parts q (f q)) → Siz parts p.name (measB f p.body)
theorem part_eq : ∀ {parts : List Prt}, (namesP parts).Nodup → ∀ {p q : Prt}, p ∈ parts → q ∈ parts → p.name = q.name → p = q
  | [], _, p, q, h, _, _ => by cases h
  | a :: r, nd, p, q, hp, hq, e => by
    have nd2 : a.name ∉ namesP r ∧ (namesP r).Nodup := List.nodup_cons.mp nd
    rcases List.mem_cons.mp hp with rfl | hp1
    · rcases List.mem_cons.mp hq with rfl | hq1
      · rfl
      · have hm : q.name ∈ namesP r := List.mem_map.mpr ⟨q, hq1, rfl⟩
        rw [← e] at hm
        exact absurd hm nd2.1
    · rcases List.mem_cons.mp hq with rfl | hq1
      · have hm : p.name ∈ namesP r := List.mem_map.mpr ⟨p, hp1, rfl⟩
        rw [e] at hm
        exact absurd hm nd2.1
      · exact part_eq nd2.2 hp1 hq1 e
theorem Siz.det {parts : List Prt} (nd : (namesP parts).Nodup) {n : Str} {x : Nat × Nat} (h : Siz parts n x) : ∀ {y : Nat × Nat}, Siz parts n y → x = y := by
  induction h with
  | @mk p f hp _ ih =>
    intro y h2
    generalize en : p.name = n at h2
    cases h2 with
    | @mk p2 f2 hp2 h2 =>
      have := part_eq nd hp hp2 en
      subst this
      exact measB_congr fun q hq => ih q hq (h2 q hq)
theorem callers_mem {parts : List Prt} {a n : Str} : n ∈ callersP parts a ↔ ∃ p ∈ parts, a ∈ callsB p.body ∧ p.name = n := by
  unfold callersP
  rw [List.mem_map]
  constructor
  · rintro ⟨p, hp, e⟩
    obtain ⟨h1, h2⟩ := List.mem_filter.mp hp
    exact ⟨p, h1, of_decide_eq_true h2, e⟩
  · rintro ⟨p, h1, h2, e⟩
    exact ⟨p, List.mem_filter.mpr ⟨h1, decide_eq_true h2⟩, e⟩
theorem callers_nd {parts : List Prt} (nd : (namesP parts).Nodup) (a : Str) : (callersP parts a).Nodup :=
  List.Nodup.sublist (List.Sublist.map _ List.filter_sublist) nd
theorem count_one {a : Str} : ∀ {l : List Str}, l.Nodup → a ∈ l → l.count a = 1
  | [], _, h => by cases h
  | b :: r, nd, h => by
    rw [List.nodup_cons] at nd
    rcases List.mem_cons.mp h with rfl | h
    · rw [List.count_cons_self, List.count_eq_zero.mpr nd.1]
    · rw [List.count_cons_of_ne (fun z => nd.1 (by rw [z]; exact h)), count_one nd.2 h]
theorem callers_count {parts : List Prt} (nd : (namesP parts).Nodup) {p : Prt} (hp : p ∈ parts) (a : Str) : (callersP parts a).count p.name = if a ∈ callsB p.body then 1 else 0 := by
  by_cases c : a ∈ callsB p.body
  · rw [if_pos c]
    exact count_one (callers_nd nd a) (callers_mem.mpr ⟨p, hp, c, rfl⟩)
  · rw [if_neg c]
    refine List.count_eq_zero.mpr fun h => c ?_
    obtain ⟨q, hq, h1, h2⟩ := callers_mem.mp h
    rwa [← part_eq nd hq hp h2]
theorem flat_count {parts : List Prt} (nd : (namesP parts).Nodup) {p : Prt} (hp : p ∈ parts) : ∀ (L ks : List Str), L.Nodup → ks.Nodup → (∀ q, q ∈ ks ↔ q ∈ callsB p.body ∧ q ∈ L) → ((L.map (callersP parts)).flatten).count p.name = ks.length
  | [], ks, _, _, h => by
    cases ks with
    | nil => rfl
    | cons a r => exact absurd ((h a).mp (List.mem_cons_self ..)).2 (by simp)
  | a :: L, ks, nL, nk, h => by
    rw [List.nodup_cons] at nL
    rw [List.map_cons, List.flatten_cons, List.count_append, callers_count nd hp]
    by_cases c : a ∈ callsB p.body
    · rw [if_pos c]
      have hk : a ∈ ks := (h a).mpr ⟨c, List.mem_cons_self ..⟩
      have ih := flat_count nd hp L (ks.erase a) nL.2 (nk.erase a) fun q => by
        rw [nk.mem_erase_iff, h q, List.mem_cons]
        constructor
        · rintro ⟨h1, h2, h3⟩
          exact ⟨h2, h3.resolve_left h1⟩
        · rintro ⟨h1, h2⟩
          exact ⟨fun z => nL.1 (by rw [← z]; exact h2), h1, .inr h2⟩
      rw [ih, List.length_erase_of_mem hk]
      have := List.length_pos_of_mem hk
      omega
    · rw [if_neg c]
      have ih := flat_count nd hp L ks nL.2 nk fun q => by
        rw [h q, List.mem_cons]
        constructor
        · rintro ⟨h1, h2⟩
          refine ⟨h1, h2.resolve_left fun z => c (by rw [← z]; exact h1)⟩
        · rintro ⟨h1, h2⟩
          exact ⟨h1, .inr h2⟩
      rw [ih]
      omega
theorem addK_mem {ks : List Str} {k q : Str} : q ∈ addK ks k ↔ q ∈ ks ∨ q = k := by
  unfold addK
  by_cases c : k ∈ ks
  · rw [if_pos c]
    exact ⟨.inl, fun h => h.elim id fun e => e ▸ c⟩
  · rw [if_neg c, List.mem_append, List.mem_singleton]
end OS

namespace OS
open PySem PySem.Spec PyProof.Rows L2
theorem SzOn.keep {H H' : Hp} {kvs : List (Key × V)} {f : Str → Nat × Nat} {q : Str} (s : Same H H') (h : SzOn H kvs f q) : SzOn H' kvs f q := by
  obtain ⟨a, h1, h2⟩ := h
  exact ⟨a, h1, s _ _ h2⟩
section
variable {P : Program} {w : World} {K : PySem.W.Frag} {mg : Str → Option Value} {base : Heap}
/-- what part_sizes has built: H0 is the heap at its call -/
structure PSt (H0 H : Hp) (parts : List Prt) (bd cd : Addr) (B : HO) (ca : Str → Addr) (cl : Str → List Str) : Prop where
  s : Same H0 H
  b : H bd = some B
  c : H cd = some (.dK (kf (namesP parts) fun n => .ref (ca n)))
  a : ∀ n ∈ namesP parts, H (ca n) = some (.lst ((cl n).map V.str))
  ai : ∀ m ∈ namesP parts, ∀ n ∈ namesP parts, ca m = ca n → m = n
  nb : H0 bd = none
  nc : H0 cd = none
  na : ∀ n ∈ namesP parts, H0 (ca n) = none
  ne : bd ≠ cd
  nba : ∀ n ∈ namesP parts, bd ≠ ca n
section
variable {H0 H H' : Hp} {parts : List Prt} {bd cd : Addr} {B : HO} {ca : Str → Addr} {cl : Str → List Str}
theorem PSt.keep (h : PSt H0 H parts bd cd B ca cl) (s : Same H H') : PSt H0 H' parts bd cd B ca cl :=
  ⟨h.s.trans s, s _ _ h.b, s _ _ h.c, fun n hn => s _ _ (h.a n hn), h.ai, h.nb, h.nc, h.na, h.ne, h.nba⟩
theorem PSt.off (h : PSt H0 H parts bd cd B ca cl) {x : Addr} {o : HO} (hx : H0 x = none) (h1 : x ≠ bd) (h2 : x ≠ cd) (h3 : ∀ n ∈ namesP parts, x ≠ ca n) : PSt H0 (upd H x o) parts bd cd B ca cl :=
  ⟨same_off hx h.s, by rw [upd_ne h1.symm]; exact h.b, by rw [upd_ne h2.symm]; exact h.c, fun n hn => by rw [upd_ne (h3 n hn).symm]; exact h.a n hn, h.ai, h.nb, h.nc, h.na, h.ne, h.nba⟩
theorem PSt.lock (h : PSt H0 H parts bd cd B ca cl) (B' : HO) : PSt H0 (upd H bd B') parts bd cd B' ca cl :=
  ⟨same_off h.nb h.s, upd_same, by rw [upd_ne h.ne.symm]; exact h.c, fun n hn => by rw [upd_ne (h.nba n hn).symm]; exact h.a n hn, h.ai, h.nb, h.nc, h.na, h.ne, h.nba⟩
theorem PSt.cong {cl' : Str → List Str} (h : PSt H0 H parts bd cd B ca cl) (e : ∀ n ∈ namesP parts, cl n = cl' n) : PSt H0 H parts bd cd B ca cl' :=
  ⟨h.s, h.b, h.c, fun n hn => by rw [← e n hn]; exact h.a n hn, h.ai, h.nb, h.nc, h.na, h.ne, h.nba⟩
theorem PSt.call (h : PSt H0 H parts bd cd B ca cl) {m : Str} (hm : m ∈ namesP parts) (x : Str) : PSt H0 (upd H (ca m) (.lst ((cl m ++ [x]).map V.str))) parts bd cd B ca (fun n => if n = m then cl n ++ [x] else cl n) :=
  ⟨same_off (h.na m hm) h.s, by rw [upd_ne (h.nba m hm)]; exact h.b, by rw [upd_ne (fun z => by have := h.a m hm; rw [← z, h.c] at this; cases this)]; exact h.c, fun n hn => by
    by_cases e : n = m
    · subst e
      rw [upd_same, if_pos rfl]
    · rw [upd_ne (fun z => e (h.ai _ hn _ hm z)), if_neg e]
      exact h.a n hn, h.ai, h.nb, h.nc, h.na, h.ne, h.nba⟩
end
def spSizes (K : PySem.W.Frag) : Sp := fun vs H Q _ => ∃ (p : Addr) (us : List V) (parts : List Prt), vs = [.ref p] ∧ H p = some (.tup us) ∧ AtL K H (parts.map Prt.dt) us ∧ (namesP parts).Nodup ∧ (∀ p ∈ parts, nB p.body ≤ 10000) ∧ (∀ p ∈ parts, ∀ q ∈ callsB p.body, q ∈ namesP parts) ∧ parts.length ≤ 60 ∧
  (¬ Kn.Circ (namesP parts) (callersP parts) → ∀ (c : Addr) (kvs : List (Key × V)) (f : Str → Nat × Nat) H', Same H H' → H' c = some (.dK kvs) → (∀ n ∈ namesP parts, Siz parts n (f n) ∧ SzOn H' kvs f n) → Q (.ref c) H') ∧
  (Kn.Circ (namesP parts) (callersP parts) → ∀ H', Same H H' → Q .non H')
theorem ok_part_sizes {f : Addr} {fd : FuncData} (F : Fun K "part_sizes" "part_sizes" s_part_sizes f fd) (T : Txt K mg) {f_listed : Addr} {d_listed : FuncData} (c_listed : Cal P w K mg base 2 "listed" ["block"] (spLis K) f_listed d_listed) {f_played_size : Addr} {d_played_size : FuncData} (c_played_size : Cal P w K mg base 3 "played_size" ["block", "sizes"] (spPlay K) f_played_size d_played_size) : FnOk P w K mg base CX0 4 f fd ["parts"] (spSizes K) := by
  refine F.ok sc_part_sizes (fun vs H Q E h => ?_) (fun cdv A outer s H vs Q E hr h => ?_)
  · obtain ⟨p, us, parts, rfl, _⟩ := h
    rfl
  · obtain ⟨p, us, parts, rfl, hp, hA, nd, hnb, hin, hfew, k1, k2⟩ := h
    have hu := hu_of hr
    have lus := hA.length
    rw [List.length_map] at lus
    have getP : ∀ (i : Nat) (hi : i < parts.length), ∃ a q bv, us[i]? = some (.ref a) ∧ H a = some (.tup [.str parts[i].name, .ref q, bv]) ∧ At K H (blkDt parts[i].body) bv := fun i hi => by
      obtain ⟨v, e1, e2⟩ := hA.get (i := i) (d := parts[i].dt) (by rw [List.getElem?_map, List.getElem?_eq_getElem hi]; rfl)
      obtain ⟨a, q, bv, rfl, ha, _, hb⟩ := part_at e2
      exact ⟨a, q, bv, e1, ha, hb⟩
    obtain ⟨bv, hbv⟩ : ∃ bv : Str → V, ∀ (i : Nat) (hi : i < parts.length), ∃ a q, us[i]? = some (.ref a) ∧ H a = some (.tup [.str parts[i].name, .ref q, bv parts[i].name]) ∧ At K H (blkDt parts[i].body) (bv parts[i].name) := by
      have : ∀ L : List Prt, (namesP L).Nodup → (∀ p ∈ L, ∃ v, ∀ i (hi : i < parts.length), parts[i] = p → ∃ a q, us[i]? = some (.ref a) ∧ H a = some (.tup [.str p.name, .ref q, v]) ∧ At K H (blkDt p.body) v) → ∃ bv : Str → V, ∀ p ∈ L, ∀ i (hi : i < parts.length), parts[i] = p → ∃ a q, us[i]? = some (.ref a) ∧ H a = some (.tup [.str p.name, .ref q, bv p.name]) ∧ At K H (blkDt p.body) (bv p.name) := by
        intro L
        induction L with
        | nil => exact fun _ _ => ⟨fun _ => .non, fun p h => by cases h⟩
        | cons b r ih =>
          intro nd h
          have nd2 : b.name ∉ namesP r ∧ (namesP r).Nodup := List.nodup_cons.mp nd
          obtain ⟨g, hg⟩ := ih nd2.2 fun p hp => h p (List.mem_cons_of_mem _ hp)
          obtain ⟨v, hv⟩ := h b (List.mem_cons_self ..)
          refine ⟨fun m => if m = b.name then v else g m, fun p hp i hi e => ?_⟩
          rcases List.mem_cons.mp hp with rfl | hp1
          · have := hv i hi e
            simp only [if_true]
            exact this
          · have ne : ¬ p.name = b.name := fun z => nd2.1 (by rw [← z]; exact List.mem_map.mpr ⟨p, hp1, rfl⟩)
            simp only [if_neg ne]
            exact hg p hp1 i hi e
      obtain ⟨bv, h⟩ := this parts nd fun p hp => by
        obtain ⟨j, hj, e⟩ := List.mem_iff_getElem.mp hp
        obtain ⟨a, q, v, h1, h2, h3⟩ := getP j hj
        refine ⟨v, fun i hi e2 => ?_⟩
        have : i = j := by
          have e3 : (namesP parts)[i]'(by rw [namesP, List.length_map]; exact hi) = (namesP parts)[j]'(by rw [namesP, List.length_map]; exact hj) := by
            simp only [namesP, List.getElem_map]
            rw [e2, e]
          exact (List.getElem_inj (h₀ := by rw [namesP, List.length_map]; exact hi) (h₁ := by rw [namesP, List.length_map]; exact hj) nd).mp e3
        subst this
        rw [e] at h2 h3
        exact ⟨a, q, h1, h2, h3⟩
      exact ⟨bv, fun i hi => h _ (List.getElem_mem hi) i hi rfl⟩
    have lnm : (namesP parts).length = parts.length := List.length_map ..
    have tkn : ∀ (i : Nat) (hi : i < parts.length), (namesP parts).take (i + 1) = (namesP parts).take i ++ [parts[i].name] := fun i hi => by
      rw [List.take_add_one, List.getElem?_eq_getElem (by rw [lnm]; exact hi)]
      simp [namesP]
    have ntk : ∀ (i : Nat) (hi : i < parts.length), parts[i].name ∉ (namesP parts).take i := fun i hi h => by
      have nd2 := nd
      rw [← List.take_append_drop (i + 1) (namesP parts), tkn i hi] at nd2
      have := (List.nodup_append.mp nd2).1
      exact (List.nodup_append.mp this).2.2 _ h _ (by simp) rfl
    refine ⟨_, (Evl.pss_cut (ps_setDc (i := 1) (own := [("part", 10)]) (g := gName 10) (by rfl) sc_part_sizes.nd rfl rfl (swD_true rfl rfl rfl (by decide +kernel)) (pi_tup (pv 0)) (blkOk_by (N := ["parts", "blocks", "name", "callers", "missing", "called", "other", "ready", "sizes", "caller", "part", "statement", "_"]) (sc := defScope s_part_sizes) (by decide +kernel)) (fun _ _ _ _ _ => pg_name (i := 10) sc_part_sizes.nd rfl (by first | exact Or.inl rfl | exact Or.inr rfl)) (fun _ _ _ _ _ => pts_nil) (fun _ _ _ _ _ => (pe_ix (show IxR _ (rIxT K) from ix_tup) (pv 10) pe_int (fun _ _ => rfl))) (fun _ _ _ _ _ => (pe_ix (show IxR _ (rIxT K) from ix_tup) (pv 10) pe_int (fun _ _ => rfl))))
      (Evl.pss_cut (ps_lock (ps_setDc (i := 3) (own := [("name", 2)]) (g := gName 2) (by rfl) sc_part_sizes.nd rfl rfl (swD_true rfl rfl rfl (by decide +kernel)) (pi_keys (pv 1)) (blkOk_by (N := ["parts", "blocks", "name", "callers", "missing", "called", "other", "ready", "sizes", "caller", "part", "statement", "_"]) (sc := defScope s_part_sizes) (by decide +kernel)) (fun _ _ _ _ _ => pg_name (i := 2) sc_part_sizes.nd rfl (by first | exact Or.inl rfl | exact Or.inr rfl)) (fun _ _ _ _ _ => pts_nil) (fun _ _ _ _ _ => (pv 2)) (fun _ _ _ _ _ => (pe_lst pa_nil))))
      (pss_cons (ps_set (i := 4) sc_part_sizes.nd rfl (.inr rfl) pe_dnewK)
      (Evl.pss_cut (ps_lock (ps_for PassesOwn.never rfl (pi_keys (pv 1)) (pg_name (i := 2) sc_part_sizes.nd rfl (.inl rfl)) (pss_cons (ps_set (i := 5) sc_part_sizes.nd rfl (.inl rfl) (pe_callB (cr_sortedSS (by rfl)) (by rfl) T.sorted (by decide +kernel) (pa_cons (pe_scS (own := [("statement", 11), ("_", 12)]) (g := gTup K 2 (gCons (gName 11) (gCons (gName 12) gNil))) (by rfl) sc_part_sizes.nd (pi_list (pe_call c_listed.G (hr.mono (by decide)) (by rfl) c_listed.m c_listed.k c_listed.b .nil pass0 (pa_cons (pe_dget hu (pv 1) (pv 2) (fun _ _ => rfl)) pa_nil))) (blkOk_by (N := ["parts", "blocks", "name", "callers", "missing", "called", "other", "ready", "sizes", "caller", "part", "statement", "_"]) (sc := defScope s_part_sizes) (by decide +kernel)) (fun _ _ _ _ _ => pg_tup (by rfl) (pgs_cons (pg_name (i := 11) sc_part_sizes.nd rfl (by first | exact Or.inl rfl | exact Or.inr rfl)) (pgs_cons (pg_name (i := 12) sc_part_sizes.nd rfl (by first | exact Or.inl rfl | exact Or.inr rfl)) pgs_nil))) (fun _ _ _ _ _ => (pts_one (pt_cmpR op_eq (pe_ix (show IxR _ (rIxT K) from ix_tup) (pv 11) pe_int (fun _ _ => rfl)) pe_str (nomark _)))) (fun _ _ _ _ _ => (pe_ix (show IxR _ (rIxT K) from ix_tup) (pv 11) pe_int (fun _ _ => rfl)))) pa_nil)))
      (pss_cons (ps_dput hu (pv 4) (pv 2) (pe_callB call_len_seq (by rfl) T.len PySem.boot_len (pa_cons (pv 5) pa_nil)) rfl)
      (pss_one (ps_for PassesOwn.never rfl (pi_list (pv 5)) (pg_name (i := 6) sc_part_sizes.nd rfl (.inl rfl)) (pss_one (ps_expr (pe_bm PySem.F.plainAttrs_list PySem.F.slot_list_append PySem.F.type_list_append mt_append (pe_dget hu (pv 3) (pv 6) (fun _ _ => rfl)) (pa_cons (pv 2) pa_nil))))))))))
      (Evl.pss_cut (ps_lock (ps_setLc (i := 7) (own := [("name", 2)]) (g := gName 2) (by rfl) sc_part_sizes.nd rfl rfl (sw_true rfl rfl rfl (by decide +kernel)) (pi_keys (pv 1)) (blkOk_by (N := ["parts", "blocks", "name", "callers", "missing", "called", "other", "ready", "sizes", "caller", "part", "statement", "_"]) (sc := defScope s_part_sizes) (by decide +kernel)) (fun _ _ _ _ _ => pg_name (i := 2) sc_part_sizes.nd rfl (by first | exact Or.inl rfl | exact Or.inr rfl)) (fun _ _ _ _ _ => (pts_one (pt_cmpR op_eq (pe_dget hu (pv 4) (pv 2) (fun _ _ => rfl)) pe_int (nomark _)))) (fun _ _ _ _ _ => (pv 2))))
      (pss_cons (ps_set (i := 8) sc_part_sizes.nd rfl (.inl rfl) pe_dnewK)
      (pss_cons (ps_while PassesOwn.never (pt_truth (pv 7) (by intro _; rfl)) (pss_cons (ps_set (i := 2) sc_part_sizes.nd rfl (.inl rfl) (pe_bm0 PySem.F.plainAttrs_list PySem.F.slot_list_pop PySem.F.type_list_pop mt_pop (pv 7)))
      (pss_cons (ps_dput hu (pv 8) (pv 2) (pe_call c_played_size.G (hr.mono (by decide)) (by rfl) c_played_size.m c_played_size.k c_played_size.b .nil pass0 (pa_cons (pe_dget hu (pv 1) (pv 2) (fun _ _ => rfl)) (pa_cons (pv 8) pa_nil))) rfl)
      (pss_one (ps_for PassesOwn.never rfl (pi_list (pe_dget hu (pv 3) (pv 2) (fun _ _ => rfl))) (pg_name (i := 9) sc_part_sizes.nd rfl (.inl rfl)) (pss_cons (ps_daug hu (pv 4) (pv 9) pe_int in_sub (fun _ _ _ => rfl))
      (pss_one (ps_if (pt_cmpR op_eq (pe_dget hu (pv 4) (pv 9) (fun _ _ => rfl)) pe_int (nomark _)) (pss_one (ps_expr (pe_bm PySem.F.plainAttrs_list PySem.F.slot_list_append PySem.F.type_list_append mt_append (pv 7) (pa_cons (pv 9) pa_nil)))) pss_nil))))))))
      (pss_one (ps_ret (pe_ifExp (pt_cmpR op_eq (pe_callB call_lenD (by rfl) T.len PySem.boot_len (pa_cons (pv 8) pa_nil)) (pe_callB call_lenD (by rfl) T.len PySem.boot_len (pa_cons (pv 1) pa_nil)) (nomark _)) (pv 8) pe_non)))))))))), ?_⟩
    refine ⟨fun σ H' => ∃ bd, σ = [some (.ref p), some (.ref bd), none, none, none, none, none, none, none, none, none, none, none] ∧ Same H H' ∧ H bd = none ∧ H' bd = some (.dK (kf (namesP parts) bv)), ?_, ?_⟩
    · refine ⟨_, rfl, p, rfl, ⟨_, SqT.of hp⟩, fun D nD => ?_⟩
      refine dc_it (walk_tup (K := K) (a := p) (xs := us)) (fun i H' => H' D = some (.dK (kf ((namesP parts).take i) bv)) ∧ Same H H') ⟨upd_same, same_upd nD⟩ (fun i H' _ x => SqT.of (x.2 _ _ hp)) ?_ ?_
      · rintro i x H2 H2 hi ⟨hD, s2⟩ ⟨rfl, hx⟩
        have hip : i < parts.length := by omega
        obtain ⟨a, q, hu2, ha, hb⟩ := hbv i hip
        rw [hx] at hu2
        cases hu2
        have ha2 := s2 _ _ ha
        refine ⟨rfl, iteT (B := True) ⟨_, rfl, a, _, _, _, rfl, rfl, SqT.of ha2, atI_nat (j := 0) rfl, _, rfl, a, _, _, _, rfl, rfl, SqT.of ha2, atI_nat (j := 2) rfl, _, Sum.inr _, rfl, hD, sz6' (by rw [kf_len, List.length_take]; omega), ?_, same_off nD s2⟩⟩
        rw [upd_same, kf_newF (ntk i hip), tkn i hip]
      · rintro H2 ⟨hD, s2⟩
        rw [lus, ← lnm, List.take_length] at hD
        exact ⟨D, rfl, s2, nD, hD⟩
    rintro σ H1 ⟨bd, rfl, s1, nbd, hbd⟩
    have kbv : ∀ i, (hi : i < parts.length) → At K H (blkDt parts[i].body) (bv parts[i].name) := fun i hi => by
      obtain ⟨_, _, _, _, h⟩ := hbv i hi
      exact h
    refine ⟨fun σ H' => ∃ cd ca, σ = [some (.ref p), some (.ref bd), none, some (.ref cd), none, none, none, none, none, none, none, none, none] ∧ PSt H H' parts bd cd (.dK (kf (namesP parts) bv)) ca (callersP []), ?_, ?_⟩
    · refine ⟨bd, _, hbd, trivial, fun od => ?_⟩
      have sf : Same H (upd H1 bd (.frz od (.dK (kf (namesP parts) bv)))) := same_off nbd s1
      have hf : (upd H1 bd (.frz od (.dK (kf (namesP parts) bv)))) bd = some (.frz od (.dK (kf (namesP parts) bv))) := upd_same
      generalize upd H1 bd (.frz od (.dK (kf (namesP parts) bv))) = H2 at sf hf
      refine ⟨_, rfl, bd, od, rfl, .inl ⟨_, hf, fun D nD => ?_⟩⟩
      refine dc_it walk_keys (fun i H' => ∃ ca : Str → Addr, H' D = some (.dK (kf ((namesP parts).take i) fun n => .ref (ca n))) ∧ Same H2 H' ∧ (∀ n ∈ (namesP parts).take i, H' (ca n) = some (.lst []) ∧ H2 (ca n) = none) ∧ ∀ m ∈ (namesP parts).take i, ∀ n ∈ (namesP parts).take i, ca m = ca n → m = n)
        ⟨fun _ => 0, upd_same, same_upd nD, fun n hn => (by rw [List.take_zero] at hn; cases hn), fun n hn => (by rw [List.take_zero] at hn; cases hn)⟩ (fun i H' _ x => by obtain ⟨_, _, s, _⟩ := x; exact s _ _ hf) ?_ ?_
      · rintro i x H3 H3 hi ⟨ca, hD, s3, hc, hinj⟩ ⟨rfl, kk, vv, hkv, rfl⟩
        rw [kf_len, lnm] at hi
        obtain ⟨n, en, rfl, rfl⟩ := kf_key hkv
        have en2 : n = parts[i].name := by
          simp only [namesP, List.getElem?_map, List.getElem?_eq_getElem hi, Option.map_some, Option.some.injEq] at en
          exact en.symm
        subst en2
        refine ⟨rfl, iteT (B := True) ⟨_, rfl, by show 0 ≤ sizeLine; decide, fun l nl => ?_⟩⟩
        have s4 := same_upd (o := .lst []) nl
        have hl4 : upd H3 l (.lst []) l = some (.lst []) := upd_same
        have hD4 := s4 _ _ hD
        refine ⟨_, Sum.inr _, rfl, hD4, sz6' (by rw [kf_len, List.length_take]; omega), ?_⟩
        have nm := ntk i hi
        rw [show kf ((namesP parts).take i) (fun n => V.ref (ca n)) = kf ((namesP parts).take i) (fun n => V.ref (if n = parts[i].name then l else ca n)) from kf_congr fun n hn => by rw [if_neg (fun z => nm (by rw [← z]; exact hn))]]
        have e1 : V.ref l = (fun n => V.ref (if n = parts[i].name then l else ca n)) parts[i].name := by simp
        rw [e1, kf_newF nm, ← tkn i hi]
        have lD : l ≠ D := fun z => by rw [z, hD] at nl; cases nl
        refine ⟨_, upd_same, same_off nD (s3.trans s4), fun n hn => ?_, fun m hm n hn e => ?_⟩
        · rw [tkn i hi] at hn
          by_cases e : n = parts[i].name
          · simp only [if_pos e]
            exact ⟨by rw [upd_ne lD]; exact hl4, s3.free nl⟩
          · simp only [if_neg e]
            have hn2 : n ∈ (namesP parts).take i := (List.mem_append.mp hn).resolve_right fun z => e (List.mem_singleton.mp z)
            have h1 := s4 _ _ (hc n hn2).1
            refine ⟨?_, (hc n hn2).2⟩
            rw [upd_ne (fun z => by rw [z, hD4] at h1; cases h1)]
            exact h1
        · rw [tkn i hi] at hm hn
          have old : ∀ n ∈ (namesP parts).take i, ca n ≠ l := fun n hn z => by
            have := (hc n hn).1
            rw [z, nl] at this
            cases this
          by_cases e1 : m = parts[i].name
          · by_cases e2 : n = parts[i].name
            · rw [e1, e2]
            · simp only [if_pos e1, if_neg e2] at e
              exact absurd e.symm (old n ((List.mem_append.mp hn).resolve_right fun z => e2 (List.mem_singleton.mp z)))
          · by_cases e2 : n = parts[i].name
            · simp only [if_neg e1, if_pos e2] at e
              exact absurd e (old m ((List.mem_append.mp hm).resolve_right fun z => e1 (List.mem_singleton.mp z)))
            · simp only [if_neg e1, if_neg e2] at e
              exact hinj m ((List.mem_append.mp hm).resolve_right fun z => e1 (List.mem_singleton.mp z)) n ((List.mem_append.mp hn).resolve_right fun z => e2 (List.mem_singleton.mp z)) e
      · rintro H3 ⟨ca, hD, s3, hc, hinj⟩
        rw [kf_len, List.take_length] at hD hc hinj
        have bdD : bd ≠ D := fun z => by rw [← z, hf] at nD; cases nD
        refine ⟨s3 _ _ hf, D, ca, rfl, ⟨same_off nbd (sf.trans s3), upd_same, by rw [upd_ne bdD.symm]; exact hD, fun n hn => ?_, hinj, nbd, sf.free nD, fun n hn => sf.free (hc n hn).2, bdD, fun n hn z => ?_⟩⟩
        · rw [upd_ne (fun z => by have := (hc n hn).2; rw [z, hf] at this; cases this)]
          exact (hc n hn).1
        · have := (hc n hn).2
          rw [← z, hf] at this
          cases this
    rintro σ H2 ⟨cd, ca, rfl, pst⟩
    intro md nmd
    have md1 : md ≠ bd := fun z => by rw [z, pst.b] at nmd; cases nmd
    have md2 : md ≠ cd := fun z => by rw [z, pst.c] at nmd; cases nmd
    have md3 : ∀ n ∈ namesP parts, md ≠ ca n := fun n hn z => by rw [z, pst.a n hn] at nmd; cases nmd
    have nmd0 : H md = none := pst.s.free nmd
    have pst1 := pst.keep (same_upd (o := .dK []) nmd)
    have hmd1 : upd H2 md (.dK []) md = some (.dK []) := upd_same
    generalize upd H2 md (.dK []) = H3 at pst1 hmd1
    have pin : ∀ i, (hi : i < parts.length) → parts[i].name ∈ namesP parts := fun i hi => List.mem_map.mpr ⟨_, List.getElem_mem hi, rfl⟩
    obtain ⟨bf, hbf⟩ : ∃ bf : Str → Int, ∀ g, bf g = ((((namesP parts).map (callersP parts)).flatten).count g : Nat) := ⟨_, fun _ => rfl⟩
    refine ⟨fun σ H' => ∃ y2 y5 y6, σ = [some (.ref p), some (.ref bd), y2, some (.ref cd), some (.ref md), y5, y6, none, none, none, none, none, none] ∧ PSt H H' parts bd cd (.dK (kf (namesP parts) bv)) ca (callersP parts) ∧ H' md = some (.dK (kf (namesP parts) fun n => .int (bf n))), ?_, ?_⟩
    · refine ⟨bd, _, pst1.b, trivial, fun od => ?_⟩
      have pst2 := pst1.lock (.frz od (.dK (kf (namesP parts) bv)))
      have hmd2 : upd H3 bd (.frz od (.dK (kf (namesP parts) bv))) md = some (.dK []) := by rw [upd_ne md1]; exact hmd1
      generalize upd H3 bd (.frz od (.dK (kf (namesP parts) bv))) = H4 at pst2 hmd2
      refine ⟨_, rfl, bd, od, rfl, .inl ⟨_, pst2.b, ?_⟩⟩
      refine for_it walk_keys (fun i σ H' => ∃ y2 y5 y6, σ = [some (.ref p), some (.ref bd), y2, some (.ref cd), some (.ref md), y5, y6, none, none, none, none, none, none] ∧ PSt H H' parts bd cd (.frz od (.dK (kf (namesP parts) bv))) ca (callersP (parts.take i)) ∧ H' md = some (.dK (kf ((namesP parts).take i) fun n => .int (bf n))))
        ⟨_, _, _, rfl, by rw [List.take_zero]; exact pst2, by rw [List.take_zero]; exact hmd2⟩ (fun i σ H' _ x => by obtain ⟨_, _, _, _, x, _⟩ := x; exact x.b) ?_ ?_
      · rintro i x σ H5 H5 hi ⟨y2, y5, y6, rfl, ps5, hmd5⟩ ⟨rfl, kk, vv, hkv, rfl⟩
        rw [kf_len, lnm] at hi
        obtain ⟨n, en, rfl, rfl⟩ := kf_key hkv
        have en2 : n = parts[i].name := by
          simp only [namesP, List.getElem?_map, List.getElem?_eq_getElem hi, Option.map_some, Option.some.injEq] at en
          exact en.symm
        subst en2
        have g1 : DGet H5 bd (.str parts[i].name) (some (bv parts[i].name)) := .inl ⟨_, Sum.inr parts[i].name, .inr ⟨od, ps5.b⟩, rfl, (kf_in (pin i hi)).symm⟩
        have hmi := List.getElem_mem hi
        refine ⟨_, rfl, _, rfl, bd, _, rfl, g1, bv parts[i].name, parts[i].body, rfl, At.keep ps5.s (kbv i hi), hnb _ hmi, fun lp lus2 H6 s6 hlp hlA => ⟨lp, rfl, ⟨_, SqL.of hlp⟩, fun D nD => ?_⟩⟩
        have ll2 := hlA.length
        rw [List.length_map] at ll2
        have ps6 := ps5.keep s6
        have hmd6 := s6 _ _ hmd5
        refine sc_it (walk_list (K := K) (a := lp) (xs := lus2)) (fun j H' => ∃ ks, H' D = some (SetSO P w D ks) ∧ ks.Nodup ∧ (∀ q, q ∈ ks ↔ q ∈ ((preB 0 parts[i].body).take j).filterMap fun p => callS p.1) ∧ Same H6 H') ⟨[], upd_same, List.nodup_nil, fun q => by simp, same_upd nD⟩ (fun j H' _ x => by obtain ⟨_, _, _, _, s⟩ := x; exact SqL.of (s _ _ hlp)) ?_ ?_
        · rintro j x H7 H7 hj ⟨ks, hD, nk, hk, s7⟩ ⟨rfl, hx⟩
          have hj : j < (preB 0 parts[i].body).length := by omega
          obtain ⟨v2, e1, e2⟩ := hlA.get (i := j) (d := pairD (preB 0 parts[i].body)[j]) (by rw [List.getElem?_map, List.getElem?_eq_getElem hj]; rfl)
          rw [hx] at e1
          cases e1
          obtain ⟨a, sv, rfl, ha, hst⟩ := pair_at.mp (At.keep s7 e2)
          have hall : ∀ q, q ∈ ((preB 0 parts[i].body).take (j + 1)).filterMap (fun p => callS p.1) → q ∈ namesP parts := fun q hq => hin _ hmi q (by
            unfold callsB
            rw [← List.take_append_drop (j + 1) (preB 0 parts[i].body), List.filterMap_append]
            exact List.mem_append_left _ hq)
          rw [List.take_add_one, List.getElem?_eq_getElem hj, List.filterMap_append] at hall ⊢
          generalize (preB 0 parts[i].body)[j] = pr at hst hall ⊢
          obtain ⟨st, l⟩ := pr
          obtain ⟨sq, sr, rfl, hsq⟩ := stm_kind hst
          refine ⟨a, _, rfl, SqT.of ha, rfl, _, _, rfl, _, _, rfl, rfl, rfl, ?_⟩
          refine ⟨_, rfl, sq, _, _, _, rfl, rfl, SqT.of hsq, atI_nat (j := 0) rfl, rfl, _, rfl, ?_⟩
          cases st with
          | call cn es =>
            have hst2 := hst
            unfold Stm.dt At at hst2
            obtain ⟨q2, vs2, e2, hq2, hl⟩ := hst2
            cases e2
            simp only [AtL] at hl
            obtain ⟨w0, _, rfl, h0, w1, _, rfl, h1, _⟩ := hl
            unfold At at h0 h1
            subst h0 h1
            have hmem : ∀ q, q ∈ addK ks cn ↔ q ∈ ((preB 0 parts[i].body).take j).filterMap (fun p => callS p.1) ++ [cn] := fun q => by rw [addK_mem, hk q, List.mem_append, List.mem_singleton]
            have hlen := List.Nodup.length_le_of_subset nk (l₂ := namesP parts) fun q hq => hall q (List.mem_append_left _ ((hk q).mp hq))
            refine iteDT rfl ⟨_, rfl, sq, _, _, _, rfl, rfl, SqT.of hq2, atI_nat (j := 1) rfl, cn, ks, rfl, hD, ?_, addK ks cn, upd_same, addK_nd nk cn, hmem, same_off nD s7⟩
            rw [lnm] at hlen
            exact Nat.lt_of_le_of_lt (Nat.add_le_add_right (Nat.le_trans hlen hfew) 1) (by decide)
          | _ => exact iteDF (fun e => absurd (V.str.inj e) (by simp only [kindS]; decide +kernel)) ⟨ks, hD, nk, fun q => by rw [hk q, List.mem_append]; exact ⟨.inl, fun z => z.elim id fun z => by simp [callS] at z⟩, s7⟩
        · rintro H7 ⟨ks, hD, nk, hk, s7⟩
          rw [ll2, List.take_length] at hk
          have hsub : ∀ q ∈ ks, q ∈ namesP parts := fun q hq => hin _ hmi q ((hk q).mp hq)
          have hlen := List.Nodup.length_le_of_subset nk (l₂ := namesP parts) hsub
          rw [lnm] at hlen
          refine ⟨D, ks, rfl, hD, by omega, fun ys q5 pm _ nq5 => ?_⟩
          have hyn : ys.Nodup := pm.nodup_iff.mpr nk
          have hym : ∀ q, q ∈ ys ↔ q ∈ callsB parts[i].body := fun q => by rw [pm.mem_iff]; exact hk q
          have hyl : (ys.length : Int) = bf parts[i].name := by
            rw [hbf]
            have := flat_count nd hmi (namesP parts) ys nd hyn fun q => by rw [hym q]; exact ⟨fun h => ⟨h, hin _ hmi q h⟩, fun h => h.1⟩
            rw [this]
          have ps8 := (ps6.keep s7).keep (same_upd (o := .lst (ys.map V.str)) nq5)
          have hmd8 := (same_upd (o := .lst (ys.map V.str)) nq5) _ _ (s7 _ _ hmd6)
          have hq8 : upd H7 q5 (.lst (ys.map V.str)) q5 = some (.lst (ys.map V.str)) := upd_same
          generalize upd H7 q5 (.lst (ys.map V.str)) = H8 at ps8 hmd8 hq8
          have q5m : q5 ≠ md := fun z => by rw [z, hmd8] at hq8; cases hq8
          refine ⟨_, rfl, q5, _, rfl, .inl (SqL.of hq8), ?_⟩
          rw [List.length_map, hyl]
          refine ⟨_, rfl, _, rfl, md, _, rfl, DPut.k (k := Sum.inr parts[i].name) hmd8 (sz6' (by rw [kf_len, List.length_take]; omega)), ?_⟩
          have ps9 := ps8.off (x := md) (o := .dK (putK (kf ((namesP parts).take i) fun n => .int (bf n)) (Sum.inr parts[i].name) (.int (bf parts[i].name)))) nmd0 md1 md2 md3
          have hmd9 : upd H8 md (.dK (putK (kf ((namesP parts).take i) fun n => .int (bf n)) (Sum.inr parts[i].name) (.int (bf parts[i].name)))) md = some (.dK (kf ((namesP parts).take (i + 1)) fun n => .int (bf n))) := by
            rw [upd_same, kf_newF (f := fun n => V.int (bf n)) (ntk i hi), tkn i hi]
          have hq9 : upd H8 md (.dK (putK (kf ((namesP parts).take i) fun n => .int (bf n)) (Sum.inr parts[i].name) (.int (bf parts[i].name)))) q5 = some (.lst (ys.map V.str)) := by rw [upd_ne q5m]; exact hq8
          have hH9 := (rfl : upd H8 md (.dK (putK (kf ((namesP parts).take i) fun n => .int (bf n)) (Sum.inr parts[i].name) (.int (bf parts[i].name)))) = upd H8 md (.dK (putK (kf ((namesP parts).take i) fun n => .int (bf n)) (Sum.inr parts[i].name) (.int (bf parts[i].name)))))
          generalize upd H8 md (.dK (putK (kf ((namesP parts).take i) fun n => .int (bf n)) (Sum.inr parts[i].name) (.int (bf parts[i].name)))) = H9 at ps9 hmd9 hq9 ⊢
          have q5c : ∀ n ∈ namesP parts, q5 ≠ ca n := fun n hn z => by
            have h1 := (ps6.keep s7).a n hn
            rw [← z, nq5] at h1
            cases h1
          refine ⟨_, rfl, q5, rfl, ⟨_, SqL.of hq9⟩, ?_⟩
          refine for_list (K := K) (a := q5) (xs := ys.map V.str) (fun j σ H' => ∃ y6, σ = [some (.ref p), some (.ref bd), some (.str parts[i].name), some (.ref cd), some (.ref md), some (.ref q5), y6, none, none, none, none, none, none] ∧ PSt H H' parts bd cd (.frz od (.dK (kf (namesP parts) bv))) ca (fun q => callersP (parts.take i) q ++ if q ∈ ys.take j then [parts[i].name] else []) ∧ H' md = some (.dK (kf ((namesP parts).take (i + 1)) fun n => .int (bf n))) ∧ H' q5 = some (.lst (ys.map V.str)))
            ⟨_, rfl, ps9.cong fun n _ => by simp, hmd9, hq9⟩ (fun j σ H' _ x => by obtain ⟨_, _, _, _, x⟩ := x; exact SqL.of x) ?_ ?_
          · rintro j x σ H10 hx ⟨y6, rfl, ps10, hmd10, hq10⟩
            rw [List.getElem?_map] at hx
            cases ej : ys[j]? with
            | none => rw [ej] at hx; cases hx
            | some o =>
              rw [ej] at hx
              cases hx
              have hoy := List.mem_of_getElem? ej
              have hon : o ∈ namesP parts := hin _ hmi o ((hym o).mp hoy)
              have dg : DGet H10 cd (.str o) (some (.ref (ca o))) := by
                have := DGet.k (k := Sum.inr o) ps10.c
                rw [kf_in hon] at this
                exact this
              have ho10 := ps10.a o hon
              have onew : o ∉ ys.take j := fun h => by
                have n2 := hyn
                rw [← List.take_append_drop (j + 1) ys, List.take_add_one, ej] at n2
                exact (List.nodup_append.mp (List.nodup_append.mp n2).1).2.2 _ h o (by simp) rfl
              refine ⟨_, rfl, _, rfl, cd, _, rfl, dg, .inl ⟨rfl, _, SqL.of ho10⟩, _, rfl, ca o, _, _, rfl, rfl, ho10, ?_, ?_⟩
              · simp only [if_neg onew, List.append_nil, List.length_map]
                refine sz6' ?_
                have := List.Nodup.length_le_of_subset (callers_nd (parts := parts.take i) (by rw [namesP, List.map_take]; exact nd.sublist (List.take_sublist ..)) o) (l₂ := namesP parts) fun q hq => by
                  obtain ⟨z, hz, _, e⟩ := callers_mem.mp hq
                  exact List.mem_map.mpr ⟨z, List.mem_of_mem_take hz, e⟩
                omega
              · have pc := ps10.call hon parts[i].name
                rw [List.map_append] at pc
                refine ⟨_, rfl, pc.cong fun n hn => ?_, ?_, ?_⟩
                · rw [List.take_add_one, ej, show (some o).toList = [o] from rfl]
                  by_cases e : n = o
                  · subst e
                    rw [if_pos rfl, if_neg onew, if_pos (by simp), List.append_nil]
                  · rw [if_neg e]
                    by_cases e2 : n ∈ ys.take j
                    · rw [if_pos e2, if_pos (List.mem_append_left _ e2)]
                    · rw [if_neg e2, if_neg (fun z => (List.mem_append.mp z).elim e2 fun z => e (List.mem_singleton.mp z))]
                · rw [upd_ne (md3 o hon)]
                  exact hmd10
                · rw [upd_ne (q5c o hon)]
                  exact hq10
          · rintro σ H10 ⟨y6, rfl, ps10, hmd10, hq10⟩
            rw [List.length_map, List.take_length] at ps10
            refine ⟨_, _, _, rfl, ps10.cong fun n hn => ?_, hmd10⟩
            unfold callersP
            rw [List.take_add_one, List.getElem?_eq_getElem hi, List.filter_append, List.map_append]
            by_cases e : n ∈ ys
            · have e2 := (hym n).mp e
              rw [if_pos e]
              simp [e2]
            · have e2 : ¬ n ∈ callsB parts[i].body := fun z => e ((hym n).mpr z)
              rw [if_neg e]
              simp [e2]
      · rintro σ H5 ⟨y2, y5, y6, rfl, ps5, hmd5⟩
        rw [kf_len, lnm, List.take_length] at ps5
        rw [kf_len, List.take_length] at hmd5
        exact ⟨ps5.b, _, _, _, rfl, ps5.lock _, by rw [upd_ne md1]; exact hmd5⟩
    rintro σ H3x ⟨y2, y5, y6, rfl, ps1, hmd1x⟩
    have ndq := fun a => callers_nd nd a
    have qin : ∀ a ∈ namesP parts, ∀ b ∈ callersP parts a, b ∈ namesP parts := fun a _ b hb => by
      obtain ⟨z, hz, _, e⟩ := callers_mem.mp hb
      exact List.mem_map.mpr ⟨z, hz, e⟩
    have I0 := Kn.KInv.start (R := namesP parts) (q := callersP parts) (bf := bf) nd fun g _ => hbf g
    refine ⟨fun σ H' => ∃ rd, σ = [some (.ref p), some (.ref bd), y2, some (.ref cd), some (.ref md), y5, y6, some (.ref rd), none, none, none, none, none] ∧ PSt H H' parts bd cd (.dK (kf (namesP parts) bv)) ca (callersP parts) ∧ H' md = some (.dK (kf (namesP parts) fun n => .int (bf n))) ∧
      H' rd = some (.lst (((namesP parts).filter fun g => decide (bf g = 0)).map V.str)) ∧ H rd = none ∧ ∀ n ∈ namesP parts, rd ≠ ca n, ?_, ?_⟩
    · refine ⟨bd, _, ps1.b, trivial, fun od => ?_⟩
      have pst2 := ps1.lock (.frz od (.dK (kf (namesP parts) bv)))
      have hmd2 : upd H3x bd (.frz od (.dK (kf (namesP parts) bv))) md = some (.dK (kf (namesP parts) fun n => .int (bf n))) := by rw [upd_ne md1]; exact hmd1x
      generalize upd H3x bd (.frz od (.dK (kf (namesP parts) bv))) = H4 at pst2 hmd2
      refine ⟨_, rfl, bd, od, rfl, .inl ⟨_, pst2.b, fun rd nrd => ?_⟩⟩
      refine lc_it walk_keys (fun i H' => H' rd = some (.lst ((((namesP parts).take i).filter fun g => decide (bf g = 0)).map V.str)) ∧ Same H4 H') ⟨upd_same, same_upd nrd⟩ (fun i H' _ x => x.2 _ _ pst2.b) ?_ ?_
      · rintro i x H5 H5 hi ⟨hrd, s5⟩ ⟨rfl, kk, vv, hkv, rfl⟩
        rw [kf_len, lnm] at hi
        obtain ⟨n, en, rfl, rfl⟩ := kf_key hkv
        have hn : n ∈ namesP parts := List.mem_of_getElem? en
        have dg : DGet H5 md (.str n) (some (.int (bf n))) := by
          have := DGet.k (k := Sum.inr n) (s5 _ _ hmd2)
          rw [kf_in hn] at this
          exact this
        refine ⟨rfl, _, rfl, _, rfl, md, _, rfl, dg, rfl, _, rfl, ?_⟩
        rw [List.take_add_one, en, List.filter_append, List.map_append, show (some n).toList = [n] from rfl]
        by_cases c : bf n = 0
        · rw [show ([n].filter fun g => decide (bf g = 0)) = [n] by simp [c]]
          refine iteDT (by rw [c]) ⟨_, rfl, _, hrd, sz6' ?_, upd_same, same_off nrd s5⟩
          rw [List.length_map]
          have := List.length_filter_le (fun g => decide (bf g = 0)) ((namesP parts).take i)
          rw [List.length_take] at this
          omega
        · rw [show ([n].filter fun g => decide (bf g = 0)) = [] by simp [c], List.map_nil, List.append_nil]
          exact iteDF (fun z => c (by injection z)) ⟨hrd, s5⟩
      · rintro H5 ⟨hrd, s5⟩
        rw [kf_len, List.take_length] at hrd
        have ps5 := pst2.keep s5
        refine ⟨ps5.b, rd, rfl, ps5.lock _, by rw [upd_ne md1]; exact s5 _ _ hmd2, ?_, pst2.s.free nrd, fun n hn z => ?_⟩
        · rw [upd_ne (fun z => by rw [z, pst2.b] at nrd; cases nrd)]
          exact hrd
        · have := pst2.a n hn
          rw [← z, nrd] at this
          cases this
    rintro σ H4 ⟨rd, rfl, ps4, hmd4, hrd4, nrd, rdc⟩
    intro sd nsd
    have ps5 := ps4.keep (same_upd (o := .dK []) nsd)
    have hmd5 := (same_upd (o := .dK []) nsd) _ _ hmd4
    have hrd5 := (same_upd (o := .dK []) nsd) _ _ hrd4
    have hsd5 : upd H4 sd (.dK []) sd = some (.dK []) := upd_same
    have sd1 : sd ≠ bd := fun z => by rw [z, ps4.b] at nsd; cases nsd
    have sd2 : sd ≠ cd := fun z => by rw [z, ps4.c] at nsd; cases nsd
    have sd3 : ∀ n ∈ namesP parts, sd ≠ ca n := fun n hn z => by rw [z, ps4.a n hn] at nsd; cases nsd
    have sdm : sd ≠ md := fun z => by rw [z, hmd4] at nsd; cases nsd
    have sdr : sd ≠ rd := fun z => by rw [z, hrd4] at nsd; cases nsd
    have nsd0 : H sd = none := ps4.s.free nsd
    have rdb : rd ≠ bd := fun z => by rw [z, ps4.b] at hrd4; cases hrd4
    have rdd : rd ≠ cd := fun z => by rw [z, ps4.c] at hrd4; cases hrd4
    have rdm : rd ≠ md := fun z => by rw [z, hmd4] at hrd4; cases hrd4
    generalize upd H4 sd (.dK []) = H5 at ps5 hmd5 hrd5 hsd5
    refine ⟨fun m σ H' => ∃ (Dn W : List Str) (bg : Str → Int) (sa : Str → Addr) (fz : Str → Nat × Nat) (y2 y9 : Option V), σ = [some (.ref p), some (.ref bd), y2, some (.ref cd), some (.ref md), y5, y6, some (.ref rd), some (.ref sd), y9, none, none, none] ∧
      PSt H H' parts bd cd (.dK (kf (namesP parts) bv)) ca (callersP parts) ∧ H' md = some (.dK (kf (namesP parts) fun n => .int (bg n))) ∧ H' rd = some (.lst (W.map V.str)) ∧ H' sd = some (.dK (kf Dn fun n => .ref (sa n))) ∧ Kn.KInv (namesP parts) (callersP parts) Dn W bg ∧
      (∀ n ∈ Dn, Siz parts n (fz n) ∧ H' (sa n) = some (.tup [.int (fz n).1, .int (fz n).2])) ∧ m + Dn.length = (namesP parts).length,
      ⟨_, [], _, bf, fun _ => 0, fun _ => (0, 0), _, _, rfl, ps5, hmd5, hrd5, hsd5, I0, fun n hn => (by cases hn), Nat.add_zero _⟩, ?_⟩
    rintro m σ H6 ⟨Dn, W, bg, sa, fz, y2, y9, rfl, ps6, hmd6, hrd6, hsd6, I, hsz, hm⟩
    have ndD : Dn.Nodup := (List.nodup_append.mp I.nd).1
    have subD : ∀ x ∈ Dn, x ∈ namesP parts := fun x hx => I.sub x (List.mem_append_left _ hx)
    rcases List.eq_nil_or_concat W with rfl | ⟨W', x, rfl⟩
    · refine ⟨_, rfl, false, .inl ⟨_, SqL.of hrd6, rfl⟩, iteF ?_⟩
      have ic := I.circ nd qin
      refine ⟨_, rfl, sd, _, rfl, hsd6, _, rfl, bd, _, rfl, ps6.b, rfl, _, rfl, ?_⟩
      rw [kf_len, kf_len]
      by_cases c : Dn.length = (namesP parts).length
      · refine iteDT (by rw [c]) ⟨_, rfl, k1 (fun z => by have := ic.mp z; omega) sd _ fz H6 ps6.s hsd6 fun n hn => ?_⟩
        have hd : n ∈ Dn := Classical.byContradiction fun h => by
          have := List.Nodup.length_le_of_subset (l₁ := n :: Dn) (l₂ := namesP parts) (List.nodup_cons.mpr ⟨h, ndD⟩) fun q hq => by
            rcases List.mem_cons.mp hq with rfl | hq
            · exact hn
            · exact subD q hq
          rw [List.length_cons] at this
          omega
        exact ⟨(hsz n hd).1, sa n, kf_in hd, (hsz n hd).2⟩
      · refine iteDF (fun z => c (by injection z with z; omega)) (k2 (ic.mpr ?_) H6 ps6.s)
        have := List.Nodup.length_le_of_subset ndD subD
        omega
    · refine ⟨_, rfl, true, .inl ⟨_, SqL.of hrd6, by simp⟩, iteT ⟨_, fun _ _ h => h, ?_⟩⟩
      rw [List.concat_eq_append] at hrd6 I
      rw [List.map_append] at hrd6
      refine ⟨_, rfl, .inl ⟨rfl, _, SqL.of hrd6⟩, rd, _, .str x, rfl, rfl, hrd6, last_app _ _, ?_⟩
      rw [show [x].map V.str = [V.str x] from rfl, List.dropLast_concat]
      have hxn : x ∈ namesP parts := I.sub x (List.mem_append_right _ (by simp))
      have ps7 := ps6.off (x := rd) (o := .lst (W'.map V.str)) nrd rdb rdd rdc
      have hmd7 : upd H6 rd (.lst (W'.map V.str)) md = some (.dK (kf (namesP parts) fun n => .int (bg n))) := by rw [upd_ne rdm.symm]; exact hmd6
      have hrd7 : upd H6 rd (.lst (W'.map V.str)) rd = some (.lst (W'.map V.str)) := upd_same
      have hsd7 : upd H6 rd (.lst (W'.map V.str)) sd = some (.dK (kf Dn fun n => .ref (sa n))) := by rw [upd_ne sdr]; exact hsd6
      have hsz7 : ∀ n ∈ Dn, Siz parts n (fz n) ∧ upd H6 rd (.lst (W'.map V.str)) (sa n) = some (.tup [.int (fz n).1, .int (fz n).2]) := fun n hn => ⟨(hsz n hn).1, by
        rw [upd_ne (fun z => by have := (hsz n hn).2; rw [z, hrd6] at this; cases this)]
        exact (hsz n hn).2⟩
      generalize upd H6 rd (.lst (W'.map V.str)) = H7 at ps7 hmd7 hrd7 hsd7 hsz7
      have M0 := I.mid nd
      obtain ⟨pt, hpt, rfl⟩ := List.mem_map.mp hxn
      have hcalls : ∀ q ∈ callsB pt.body, q ∈ Dn := fun q hq => by
        obtain ⟨i, hi, e⟩ := M0.t Dn.length pt.name (by rw [List.getElem?_append_right (Nat.le_refl _), Nat.sub_self]; rfl) q (hin _ hpt q hq) (callers_mem.mpr ⟨pt, hpt, hq, rfl⟩)
        rw [List.getElem?_append_left hi] at e
        exact List.mem_of_getElem? e
      have hxD : pt.name ∉ Dn := fun hp => (List.nodup_append.mp I.nd).2.2 _ hp _ (by simp) rfl
      obtain ⟨pi, hpi, epi⟩ := List.mem_iff_getElem.mp hpt
      have kb := kbv pi hpi
      rw [epi] at kb
      have g1 : DGet H7 bd (.str pt.name) (some (bv pt.name)) := .inl ⟨_, Sum.inr pt.name, .inl ps7.b, rfl, (kf_in hxn).symm⟩
      refine ⟨_, rfl, _, rfl, bd, _, rfl, g1, _, rfl, bv pt.name, sd, pt.body, fz, _, rfl, At.keep ps7.s kb, hsd7, hnb _ hpt, fun q hq => ⟨sa q, kf_in (hcalls q hq), (hsz7 q (hcalls q hq)).2⟩, fun tp H8 s8 ntp htp => ?_⟩
      have ps8 := ps7.keep s8
      have hmd8 := s8 _ _ hmd7
      have hrd8 := s8 _ _ hrd7
      have hsd8 := s8 _ _ hsd7
      have lD := List.Nodup.length_le_of_subset ndD subD
      refine ⟨_, rfl, _, rfl, sd, _, rfl, DPut.k (k := Sum.inr pt.name) hsd8 (sz6' (by rw [kf_len]; omega)), ?_⟩
      have ps9 := ps8.off (x := sd) (o := .dK (putK (kf Dn fun n => .ref (sa n)) (Sum.inr pt.name) (.ref tp))) nsd0 sd1 sd2 sd3
      have enw : putK (kf Dn fun n => V.ref (sa n)) (Sum.inr pt.name) (.ref tp) = kf (Dn ++ [pt.name]) fun n => .ref (if n = pt.name then tp else sa n) := by
        rw [kf_new hxD]
        refine kf_congr fun n _ => ?_
        unfold setF
        by_cases e : n = pt.name
        · rw [if_pos e, if_pos e]
        · rw [if_neg e, if_neg e]
      rw [enw] at ps9 ⊢
      have hmd9 : upd H8 sd (.dK (kf (Dn ++ [pt.name]) fun n => .ref (if n = pt.name then tp else sa n))) md = some (.dK (kf (namesP parts) fun n => .int (bg n))) := by rw [upd_ne sdm.symm]; exact hmd8
      have hrd9 : upd H8 sd (.dK (kf (Dn ++ [pt.name]) fun n => .ref (if n = pt.name then tp else sa n))) rd = some (.lst (W'.map V.str)) := by rw [upd_ne sdr.symm]; exact hrd8
      have hsd9 : upd H8 sd (.dK (kf (Dn ++ [pt.name]) fun n => .ref (if n = pt.name then tp else sa n))) sd = some (.dK (kf (Dn ++ [pt.name]) fun n => .ref (if n = pt.name then tp else sa n))) := upd_same
      have hsz9 : ∀ n ∈ Dn ++ [pt.name], Siz parts n (if n = pt.name then measB fz pt.body else fz n) ∧ upd H8 sd (.dK (kf (Dn ++ [pt.name]) fun n => .ref (if n = pt.name then tp else sa n))) (if n = pt.name then tp else sa n) = some (.tup [.int (if n = pt.name then measB fz pt.body else fz n).1, .int (if n = pt.name then measB fz pt.body else fz n).2]) := fun n hn => by
        by_cases e : n = pt.name
        · subst e
          rw [if_pos rfl, if_pos rfl]
          refine ⟨Siz.mk hpt fun q hq => (hsz7 q (hcalls q hq)).1, ?_⟩
          rw [upd_ne (fun z => by rw [z, hsd8] at htp; cases htp)]
          exact htp
        · rw [if_neg e, if_neg e]
          have hd := (List.mem_append.mp hn).resolve_right fun z => e (List.mem_singleton.mp z)
          have h2 := s8 _ _ (hsz7 n hd).2
          refine ⟨(hsz7 n hd).1, ?_⟩
          rw [upd_ne (fun z => by rw [z, hsd8] at h2; cases h2)]
          exact h2
      generalize upd H8 sd (.dK (kf (Dn ++ [pt.name]) fun n => .ref (if n = pt.name then tp else sa n))) = H9 at ps9 hmd9 hrd9 hsd9 hsz9 ⊢
      have g2 : DGet H9 cd (.str pt.name) (some (.ref (ca pt.name))) := by
        have := DGet.k (k := Sum.inr pt.name) ps9.c
        rw [kf_in hxn] at this
        exact this
      have hcl9 := ps9.a _ hxn
      refine ⟨_, rfl, _, rfl, cd, _, rfl, g2, ca pt.name, rfl, ⟨_, SqL.of hcl9⟩, ?_⟩
      refine for_list (K := K) (a := ca pt.name) (xs := (callersP parts pt.name).map V.str) (fun j σ H' => ∃ (W : List Str) (bg : Str → Int) (y9 : Option V), σ = [some (.ref p), some (.ref bd), some (.str pt.name), some (.ref cd), some (.ref md), y5, y6, some (.ref rd), some (.ref sd), y9, none, none, none] ∧
        PSt H H' parts bd cd (.dK (kf (namesP parts) bv)) ca (callersP parts) ∧ H' md = some (.dK (kf (namesP parts) fun n => .int (bg n))) ∧ H' rd = some (.lst (W.map V.str)) ∧ H' sd = some (.dK (kf (Dn ++ [pt.name]) fun n => .ref (if n = pt.name then tp else sa n))) ∧ Kn.KMid (namesP parts) (callersP parts) Dn pt.name ((callersP parts pt.name).drop j) W bg ∧
        (∀ n ∈ Dn ++ [pt.name], Siz parts n (if n = pt.name then measB fz pt.body else fz n) ∧ H' (if n = pt.name then tp else sa n) = some (.tup [.int (if n = pt.name then measB fz pt.body else fz n).1, .int (if n = pt.name then measB fz pt.body else fz n).2])))
        ⟨W', bg, y9, rfl, ps9, hmd9, hrd9, hsd9, by rw [List.drop_zero]; exact M0, hsz9⟩ (fun j σ H' _ x => by obtain ⟨_, _, _, _, x, _⟩ := x; exact SqL.of (x.a _ hxn)) ?_ ?_
      · rintro j v σ H10 hv ⟨W, bg, y9, rfl, ps10, hmd10, hrd10, hsd10, M, hsz10⟩
        rw [List.getElem?_map] at hv
        cases ej : (callersP parts pt.name)[j]? with
        | none => rw [ej] at hv; cases hv
        | some y =>
          rw [ej] at hv
          cases hv
          have hyn := qin _ hxn y (List.mem_of_getElem? ej)
          obtain ⟨hj, ej2⟩ := List.getElem?_eq_some_iff.mp ej
          rw [List.drop_eq_getElem_cons hj, ej2] at M
          have dg : DGet H10 md (.str y) (some (.int (bg y))) := by
            have := DGet.k (k := Sum.inr y) hmd10
            rw [kf_in hyn] at this
            exact this
          refine ⟨_, rfl, _, rfl, md, _, rfl, dg, _, _, rfl, rfl, _, DPut.k (k := Sum.inr y) hmd10 (sz6' (by rw [kf_len]; omega)), ?_⟩
          have enw2 : putK (kf (namesP parts) fun n => V.int (bg n)) (Sum.inr y) (.int (bg y - 1)) = kf (namesP parts) fun n => .int (Kn.dec1 bg y n) := by
            rw [kf_put hyn]
            refine kf_congr fun n _ => ?_
            unfold setF Kn.dec1
            by_cases e : n = y
            · rw [if_pos e, if_pos e]
            · rw [if_neg e, if_neg e]
          rw [show putK (kf (namesP parts) fun n => V.int (bg n)) (Sum.inr y) (.int ((fun i j => i - j) (bg y) 1)) = kf (namesP parts) fun n => .int (Kn.dec1 bg y n) from enw2]
          have ps11 := ps10.off (x := md) (o := .dK (kf (namesP parts) fun n => .int (Kn.dec1 bg y n))) nmd0 md1 md2 md3
          have hmd11 : upd H10 md (.dK (kf (namesP parts) fun n => .int (Kn.dec1 bg y n))) md = some (.dK (kf (namesP parts) fun n => .int (Kn.dec1 bg y n))) := upd_same
          have hrd11 : upd H10 md (.dK (kf (namesP parts) fun n => .int (Kn.dec1 bg y n))) rd = some (.lst (W.map V.str)) := by rw [upd_ne rdm]; exact hrd10
          have hsd11 : upd H10 md (.dK (kf (namesP parts) fun n => .int (Kn.dec1 bg y n))) sd = some (.dK (kf (Dn ++ [pt.name]) fun n => .ref (if n = pt.name then tp else sa n))) := by rw [upd_ne sdm]; exact hsd10
          have hsz11 : ∀ n ∈ Dn ++ [pt.name], Siz parts n (if n = pt.name then measB fz pt.body else fz n) ∧ upd H10 md (.dK (kf (namesP parts) fun n => .int (Kn.dec1 bg y n))) (if n = pt.name then tp else sa n) = some (.tup [.int (if n = pt.name then measB fz pt.body else fz n).1, .int (if n = pt.name then measB fz pt.body else fz n).2]) := fun n hn => ⟨(hsz10 n hn).1, by
            rw [upd_ne (fun z => by have := (hsz10 n hn).2; rw [z, hmd10] at this; cases this)]
            exact (hsz10 n hn).2⟩
          generalize upd H10 md (.dK (kf (namesP parts) fun n => .int (Kn.dec1 bg y n))) = H11 at ps11 hmd11 hrd11 hsd11 hsz11 ⊢
          have dg2 : DGet H11 md (.str y) (some (.int (bg y - 1))) := by
            have := DGet.k (k := Sum.inr y) hmd11
            rw [kf_in hyn] at this
            rw [show bg y - 1 = Kn.dec1 bg y y by unfold Kn.dec1; rw [if_pos rfl]]
            exact this
          have lW : W.length ≤ (namesP parts).length := by
            have h1 := (List.nodup_append.mp M.nd).2.1
            exact List.Nodup.length_le_of_subset h1 fun q hq => M.sub q (List.mem_append_right _ hq)
          refine ⟨_, rfl, _, rfl, md, _, rfl, dg2, rfl, _, rfl, ?_⟩
          by_cases c : bg y - 1 = 0
          · refine iteDT (by rw [c]) ⟨_, rfl, .inl ⟨rfl, _, SqL.of hrd11⟩, _, rfl, rd, _, _, rfl, rfl, hrd11, sz6' (by rw [List.length_map]; omega), ?_⟩
            have ps12 := ps11.off (x := rd) (o := .lst (W.map V.str ++ [.str y])) nrd rdb rdd rdc
            refine ⟨W ++ [y], _, _, rfl, ps12, by rw [upd_ne rdm.symm]; exact hmd11, by rw [upd_same, List.map_append]; rfl, by rw [upd_ne sdr]; exact hsd11, M.take hyn c, fun n hn => ⟨(hsz11 n hn).1, ?_⟩⟩
            rw [upd_ne (fun z => by have := (hsz11 n hn).2; rw [z, hrd11] at this; cases this)]
            exact (hsz11 n hn).2
          · exact iteDF (fun z => c (by injection z)) ⟨W, _, _, rfl, ps11, hmd11, hrd11, hsd11, M.next hyn c, hsz11⟩
      · rintro σ H10 ⟨W, bg, y9, rfl, ps10, hmd10, hrd10, hsd10, M, hsz10⟩
        rw [List.length_map, List.drop_length] at M
        have hlt : Dn.length < (namesP parts).length := by
          have := List.Nodup.length_le_of_subset (l₁ := pt.name :: Dn) (l₂ := namesP parts) (List.nodup_cons.mpr ⟨hxD, ndD⟩) fun q hq => by
            rcases List.mem_cons.mp hq with rfl | hq
            · exact hxn
            · exact subD q hq
          rw [List.length_cons] at this
          omega
        exact ⟨m - 1, by omega, Dn ++ [pt.name], W, bg, fun n => if n = pt.name then tp else sa n, fun n => if n = pt.name then measB fz pt.body else fz n, _, _, rfl, ps10, hmd10, hrd10, hsd10, M.done, hsz10, by rw [List.length_append, List.length_singleton]; omega⟩
end
end OS

namespace OS
open PySem PySem.Spec PyProof.Rows L2
/-! ### check_tree -/
open Classical in
/-- the two numbers of a part, if it has any -/
noncomputable def szOf (parts : List Prt) (n : Str) : Nat × Nat := if h : ∃ x, Siz parts n x then choose h else (0, 0)
theorem szOf_eq {parts : List Prt} (nd : (namesP parts).Nodup) {n : Str} {x : Nat × Nat} (h : Siz parts n x) : szOf parts n = x := by
  unfold szOf
  have hx : ∃ x, Siz parts n x := ⟨x, h⟩
  rw [dif_pos hx]
  exact Siz.det nd (Classical.choose_spec hx) h
def cntP (parts : List Prt) : List (Str × Int) := parts.map fun p => (p.name, ((p.params.length : Nat) : Int))
def stmsRule (t : Tree) : Option Str := (nameRule t.ends t.parts).or ((t.parts.findSome? fun p => blkRule (cntP t.parts) p.params p.body).or (blkRule (cntP t.parts) t.ends t.body))
open Classical in
noncomputable def treeRule (t : Tree) : Option Str := (stmsRule t).or (if Kn.Circ (namesP t.parts) (callersP t.parts) then some "circle" else if 3 < (measB (szOf t.parts) t.body).2 then some "loops" else if 150 < (measB (szOf t.parts) t.body).1 then some "large" else none)
structure TreeOk (t : Tree) : Prop where
  ends : t.ends.length ≤ 4000
  parts : t.parts.length ≤ 12
  params : ∀ p ∈ t.parts, p.params.length ≤ 4000
  few : ∀ p ∈ t.parts, fewB p.body
  fewb : fewB t.body
  n : ∀ p ∈ t.parts, nB p.body ≤ 10000
  nb : nB t.body ≤ 10000
theorem cnt_none {parts : List Prt} {q : Str} (h : q ∉ namesP parts) : cntV (cntP parts) q = none := by
  unfold cntV cntP
  induction parts with
  | nil => rfl
  | cons p r ih =>
    rw [List.map_cons, List.find?_cons]
    have e : decide (p.name = q) = false := decide_eq_false fun z => h (by rw [← z]; exact List.mem_cons_self ..)
    simp only [e]
    exact ih fun z => h (List.mem_cons_of_mem _ z)
theorem right_in {parts : List Prt} {q : Str} {es : List Str} (h : rightC (cntP parts) q es = true) : q ∈ namesP parts := Classical.byContradiction fun n => by
  unfold rightC at h
  rw [cnt_none n] at h
  cases h
theorem calls_in {parts : List Prt} {ends : List Str} {b : List Stm} (h : blkRule (cntP parts) ends b = none) : ∀ q ∈ callsB b, q ∈ namesP parts := fun q hq => by
  unfold blkRule at h
  rw [List.findSome?_eq_none_iff] at h
  obtain ⟨pr, hp, e⟩ := List.mem_filterMap.mp hq
  have hr := h pr hp
  cases hs : pr.1 with
  | call c es =>
    rw [hs] at hr e
    simp only [callS, Option.some.injEq] at e
    subst e
    unfold stmRule at hr
    by_cases c1 : badCall (cntP parts) (.call c es) = true
    · rw [if_pos c1] at hr
      cases hr
    · refine right_in (es := es) ?_
      simp only [badCall] at c1
      cases z : rightC (cntP parts) c es with
      | true => rfl
      | false => rw [z] at c1; exact absurd rfl c1
  | _ => rw [hs] at e; simp [callS] at e
theorem cnt_new {parts : List Prt} {p : Prt} (h : p.name ∉ namesP parts) : putK (cntK (cntP parts)) (Sum.inr p.name) (.int (p.params.length : Nat)) = cntK (cntP (parts ++ [p])) := by
  have := cnt_val (cntP parts) p.name
  rw [cnt_none h] at this
  rw [putK_new _ this]
  unfold cntK cntP
  rw [List.map_append, List.map_append]
  rfl
section
variable {P : Program} {w : World} {K : PySem.W.Frag} {mg : Str → Option Value} {base : Heap} {CS : Addr} {f_err : Addr} {d_err : FuncData}
def spChkT (K : PySem.W.Frag) (CS : Addr) : Sp := fun vs H Q E => ∃ (v : V) (t : Tree), vs = [v] ∧ At K H t.dt v ∧ TreeOk t ∧ Chk CS (treeRule t) H Q E
theorem ok_check_tree {f : Addr} {fd : FuncData} (F : Fun K "check_tree" "check_tree" s_check_tree f fd) (T : Txt K mg) (TG : ChkTxt mg) (O_InvalidScore : OCal P w K mg base CS "InvalidScore" "rule" f_err d_err) {f_check_names : Addr} {d_check_names : FuncData} (c_check_names : CalX P w K mg base 3 "check_names" ["ends", "parts"] (spChkN K CS) f_check_names d_check_names) {f_check_block : Addr} {d_check_block : FuncData} (c_check_block : CalX P w K mg base 4 "check_block" ["block", "ends", "counts"] (spChkB K CS) f_check_block d_check_block) {f_part_sizes : Addr} {d_part_sizes : FuncData} (c_part_sizes : Cal P w K mg base 4 "part_sizes" ["parts"] (spSizes K) f_part_sizes d_part_sizes) {f_played_size : Addr} {d_played_size : FuncData} (c_played_size : Cal P w K mg base 3 "played_size" ["block", "sizes"] (spPlay K) f_played_size d_played_size) : FnOk P w K mg base (L2.CX P w) 5 f fd ["tree"] (spChkT K CS) := by
  refine F.okX sc_check_tree (fun vs H Q E h => ?_) (fun cdv A outer s H vs Q E hr h => ?_)
  · obtain ⟨v, t, rfl, _⟩ := h
    rfl
  · obtain ⟨v, t, rfl, hat, ok, k1, k2⟩ := h
    obtain ⟨tl, m_MOST_LOOPS⟩ := TG.lo
    obtain ⟨ts, m_MOST_STATEMENTS⟩ := TG.st
    have hu := hu_of hr
    unfold Tree.dt At at hat
    obtain ⟨tp, vs, rfl, htp, hl⟩ := hat
    simp only [AtL] at hl
    obtain ⟨v0, _, rfl, h0, v1, _, rfl, h1, v2, _, rfl, hb, rfl⟩ := hl
    obtain ⟨ep, rfl, hep⟩ := names_of h0
    unfold At at h1
    obtain ⟨pp, us, rfl, hpp, hA⟩ := h1
    have lus := hA.length
    rw [List.length_map] at lus
    refine ⟨_, (pss_cons (ps_asg (pv 0) (pg_tup (by rfl) (pgs_cons (pg_name (i := 1) sc_check_tree.nd rfl (.inl rfl)) (pgs_cons (pg_name (i := 2) sc_check_tree.nd rfl (.inl rfl)) (pgs_cons (pg_name (i := 3) sc_check_tree.nd rfl (.inl rfl)) pgs_nil)))))
      (pss_cons (ps_expr (pe_call c_check_names.G (hr.mono (by decide)) (by rfl) c_check_names.m c_check_names.k c_check_names.b .nil (passE (takes_of rfl rfl rfl rfl)) (pa_cons (pv 1) (pa_cons (pv 2) pa_nil))))
      (pss_cons (ps_setDc (i := 5) (own := [("part", 4)]) (g := gName 4) (by rfl) sc_check_tree.nd rfl rfl (swD_true rfl rfl rfl (by decide +kernel)) (pi_tup (pv 2)) (blkOk_by (N := ["tree", "ends", "parts", "block", "part", "counts", "sizes", "many", "depth"]) (sc := defScope s_check_tree) (by decide +kernel)) (fun _ _ _ _ _ => pg_name (i := 4) sc_check_tree.nd rfl (by first | exact Or.inl rfl | exact Or.inr rfl)) (fun _ _ _ _ _ => pts_nil) (fun _ _ _ _ _ => (pe_ix (show IxR _ (rIxT K) from ix_tup) (pv 4) pe_int (fun _ _ => rfl))) (fun _ _ _ _ _ => (pe_callB (show CallR _ (.builtin "len") (fun xs H Q => ∃ p ys, xs = [.ref p] ∧ (SqL K H p ys ∨ SqT K H p ys) ∧ Q (.int ys.length) H) from call_len_seq) (by rfl) T.len PySem.boot_len (pa_cons (pe_ix (show IxR _ (rIxT K) from ix_tup) (pv 4) pe_int (fun _ _ => rfl)) pa_nil))))
      (pss_cons (ps_for (passes_of rfl) rfl (pi_tup (pv 2)) (pg_name (i := 4) sc_check_tree.nd rfl (.inl rfl)) (pss_one (ps_expr (pe_call c_check_block.G (hr.mono (by decide)) (by rfl) c_check_block.m c_check_block.k c_check_block.b .nil (passE (takes_of rfl rfl rfl rfl)) (pa_cons (pe_ix ix_tup (pv 4) pe_int (fun _ _ => rfl)) (pa_cons (pe_ix ix_tup (pv 4) pe_int (fun _ _ => rfl)) (pa_cons (pv 5) pa_nil)))))))
      (pss_cons (ps_expr (pe_call c_check_block.G (hr.mono (by decide)) (by rfl) c_check_block.m c_check_block.k c_check_block.b .nil (passE (takes_of rfl rfl rfl rfl)) (pa_cons (pv 3) (pa_cons (pv 1) (pa_cons (pv 5) pa_nil)))))
      (pss_cons (ps_set (i := 6) sc_check_tree.nd rfl (.inl rfl) (pe_call c_part_sizes.G (hr.mono (by decide)) (by rfl) c_part_sizes.m c_part_sizes.k c_part_sizes.b .nil pass0 (pa_cons (pv 2) pa_nil)))
      (pss_cons (ps_if (pt_cmpR op_isN (pv 6) pe_non (nomark _)) (pss_one (ps_raise rfl (takes_of rfl rfl rfl rfl) (pmk_oex O_InvalidScore.T O_InvalidScore.iC O_InvalidScore.tI O_InvalidScore.G (hr.mono (by decide)) O_InvalidScore.b .nil pass0 (by rfl) O_InvalidScore.m (pa_cons pe_str pa_nil)))) pss_nil)
      (pss_cons (ps_asg (pe_call c_played_size.G (hr.mono (by decide)) (by rfl) c_played_size.m c_played_size.k c_played_size.b .nil pass0 (pa_cons (pv 3) (pa_cons (pv 6) pa_nil))) (pg_tup (by rfl) (pgs_cons (pg_name (i := 7) sc_check_tree.nd rfl (.inl rfl)) (pgs_cons (pg_name (i := 8) sc_check_tree.nd rfl (.inl rfl)) pgs_nil))))
      (pss_cons (ps_if (pt_cmpR op_gt (pv 8) (pe_glob rfl m_MOST_LOOPS relI) (nomark _)) (pss_one (ps_raise rfl (takes_of rfl rfl rfl rfl) (pmk_oex O_InvalidScore.T O_InvalidScore.iC O_InvalidScore.tI O_InvalidScore.G (hr.mono (by decide)) O_InvalidScore.b .nil pass0 (by rfl) O_InvalidScore.m (pa_cons pe_str pa_nil)))) pss_nil)
      (pss_one (ps_if (pt_cmpR op_gt (pv 7) (pe_glob rfl m_MOST_STATEMENTS relI) (nomark _)) (pss_one (ps_raise rfl (takes_of rfl rfl rfl rfl) (pmk_oex O_InvalidScore.T O_InvalidScore.iC O_InvalidScore.tI O_InvalidScore.G (hr.mono (by decide)) O_InvalidScore.b .nil pass0 (by rfl) O_InvalidScore.m (pa_cons pe_str pa_nil)))) pss_nil))))))))))), ?_⟩
    refine ⟨_, rfl, tp, _, rfl, SqT.of htp, rfl, _, _, rfl, _, _, rfl, _, _, rfl, rfl, ?_⟩
    refine ⟨_, rfl, _, rfl, ep, pp, us, t.ends, t.parts, rfl, hep, hpp, hA, ok.ends, Nat.le_trans ok.parts (by decide), ok.params, fun nr H1 s1 => ?_, fun z hz d H1 s1 hx => k2 z (by unfold treeRule stmsRule; rw [hz]; rfl) d H1 s1 hx⟩
    have nd : (namesP t.parts).Nodup := Classical.byContradiction fun n => by
      unfold nameRule at nr
      by_cases c : 6 < t.ends.length ∨ ¬ t.ends.Nodup
      · rw [if_pos c] at nr; cases nr
      · rw [if_neg c, if_pos (show ¬ (t.parts.map (·.name)).Nodup from n)] at nr
        cases nr
    have lnm : (namesP t.parts).length = t.parts.length := List.length_map ..
    have ntk : ∀ (i : Nat) (hi : i < t.parts.length), t.parts[i].name ∉ namesP (t.parts.take i) := fun i hi h => by
      have nd2 := nd
      rw [namesP, ← List.take_append_drop (i + 1) t.parts, List.take_add_one, List.getElem?_eq_getElem hi, List.map_append, List.map_append] at nd2
      exact (List.nodup_append.mp (List.nodup_append.mp nd2).1).2.2 _ h _ (by simp) rfl
    have getP : ∀ (i : Nat) (hi : i < t.parts.length) H', Same H H' → ∃ a q bv, us[i]? = some (.ref a) ∧ H' a = some (.tup [.str t.parts[i].name, .ref q, bv]) ∧ H' q = some (.tup (t.parts[i].params.map V.str)) ∧ At K H' (blkDt t.parts[i].body) bv := fun i hi H' s => by
      obtain ⟨v, e1, e2⟩ := hA.get (i := i) (d := t.parts[i].dt) (by rw [List.getElem?_map, List.getElem?_eq_getElem hi]; rfl)
      obtain ⟨a, q, bv, rfl, ha, hq, hb⟩ := part_at e2
      exact ⟨a, q, bv, e1, s _ _ ha, s _ _ hq, At.keep s hb⟩
    refine ⟨_, rfl, pp, rfl, ⟨_, SqT.of (s1 _ _ hpp)⟩, fun D nD => ?_⟩
    refine dc_it (walk_tup (K := K) (a := pp) (xs := us)) (fun i H' => H' D = some (.dK (cntK (cntP (t.parts.take i)))) ∧ Same H1 H') ⟨by rw [List.take_zero]; exact upd_same, same_upd nD⟩ (fun i H' _ x => SqT.of (x.2 _ _ (s1 _ _ hpp))) ?_ ?_
    · rintro i x H2 H2 hi ⟨hD, s2⟩ ⟨rfl, hx⟩
      have hip : i < t.parts.length := by omega
      obtain ⟨a, q, bv, hu2, ha, hq, _⟩ := getP i hip H2 (s1.trans s2)
      rw [hx] at hu2
      cases hu2
      refine ⟨rfl, iteT (B := True) ⟨_, rfl, a, _, _, _, rfl, rfl, SqT.of ha, atI_nat (j := 0) rfl, _, rfl, a, _, _, _, rfl, rfl, SqT.of ha, atI_nat (j := 1) rfl, q, _, rfl, .inr (SqT.of hq), _, Sum.inr _, rfl, hD, sz6' ?_, ?_, same_off nD s2⟩⟩
      · unfold cntK cntP
        rw [List.length_map, List.length_map, List.length_take]
        have := ok.parts
        omega
      · rw [upd_same, List.length_map, cnt_new (ntk i hip), List.take_add_one, List.getElem?_eq_getElem hip]
        rfl
    rintro H2 ⟨hD, s2⟩
    rw [lus, List.take_length] at hD
    have s02 := s1.trans s2
    refine ⟨_, rfl, pp, rfl, ⟨_, SqT.of (s02 _ _ hpp)⟩, ?_⟩
    refine for_tup (K := K) (a := pp) (xs := us) (fun i σ H' => ∃ y4, σ = [some (.ref tp), some (.ref ep), some (.ref pp), some v2, y4, some (.ref D), none, none, none] ∧ Same H2 H' ∧ (t.parts.take i).findSome? (fun p => blkRule (cntP t.parts) p.params p.body) = none) ⟨_, rfl, fun _ _ h => h, by rw [List.take_zero]; rfl⟩ (fun i σ H' _ x => by obtain ⟨_, _, s, _⟩ := x; exact SqT.of ((s02.trans s) _ _ hpp)) ?_ ?_
    · rintro i x σ H3 hx ⟨y4, rfl, s3, hno⟩
      have hip : i < t.parts.length := by
        have := (List.getElem?_eq_some_iff.mp hx).1
        omega
      obtain ⟨a, q, bv, hu2, ha, hq, hbv⟩ := getP i hip H3 (s02.trans s3)
      rw [hx] at hu2
      cases hu2
      have hmi := List.getElem_mem hip
      refine ⟨_, rfl, a, _, _, _, rfl, rfl, SqT.of ha, atI_nat (j := 2) rfl, _, rfl, a, _, _, _, rfl, rfl, SqT.of ha, atI_nat (j := 1) rfl, _, rfl, bv, q, D, t.parts[i].body, t.parts[i].params, cntP t.parts, rfl, hbv, hq, s3 _ _ hD, ok.few _ hmi, ok.n _ hmi, fun nb H4 s4 => ?_, fun z hz d H4 s4 hxd => k2 z ?_ d H4 ((s02.trans s3).trans s4) hxd⟩
      · refine ⟨_, rfl, s3.trans s4, ?_⟩
        rw [List.take_add_one, List.getElem?_eq_getElem hip, List.findSome?_append, hno]
        show Option.or none (List.findSome? _ [t.parts[i]]) = none
        simp [nb]
      · unfold treeRule stmsRule
        rw [nr, Option.none_or]
        have : t.parts.findSome? (fun p => blkRule (cntP t.parts) p.params p.body) = some z := by
          rw [← List.take_append_drop i t.parts, List.findSome?_append, List.take_append_drop, hno, List.drop_eq_getElem_cons hip, Option.none_or, List.findSome?_cons]
          simp only [hz]
        rw [this]
        rfl
    rintro σ H3 ⟨y4, rfl, s3, hno⟩
    rw [lus, List.take_length] at hno
    have s03 := s02.trans s3
    refine ⟨_, rfl, _, rfl, _, rfl, v2, ep, D, t.body, t.ends, cntP t.parts, rfl, At.keep s03 hb, s03 _ _ hep, s3 _ _ hD, ok.fewb, ok.nb, fun nb H4 s4 => ?_, fun z hz d H4 s4 hxd => k2 z (by unfold treeRule stmsRule; rw [nr, hno, hz]; rfl) d H4 (s03.trans s4) hxd⟩
    have s04 := s03.trans s4
    have sr : stmsRule t = none := by unfold stmsRule; rw [nr, hno, nb]; rfl
    have hin : ∀ p ∈ t.parts, ∀ q ∈ callsB p.body, q ∈ namesP t.parts := fun p hp => calls_in ((List.findSome?_eq_none_iff.mp hno) p hp)
    have hinb : ∀ q ∈ callsB t.body, q ∈ namesP t.parts := calls_in nb
    unfold treeRule at k1 k2
    rw [sr, Option.none_or] at k1 k2
    refine ⟨_, rfl, pp, us, t.parts, rfl, s04 _ _ hpp, AtL.keep s04 hA, nd, ok.n, hin, Nat.le_trans ok.parts (by decide), fun nc c kvs f H5 s5 hc hsz => ?_, fun hc H5 s5 => ?_⟩
    · rw [if_neg nc] at k1 k2
      refine ⟨_, rfl, rfl, _, rfl, iteF ?_⟩
      have s05 := s04.trans s5
      have em : measB (szOf t.parts) t.body = measB f t.body := measB_congr fun q hq => szOf_eq nd (hsz q (hinb q hq)).1
      rw [em] at k1 k2
      refine ⟨_, rfl, _, rfl, v2, c, t.body, f, kvs, rfl, At.keep s05 hb, hc, ok.nb, fun q hq => (hsz q (hinb q hq)).2, fun mp H6 s6 _ hmp => ?_⟩
      have s06 := s05.trans s6
      refine ⟨mp, _, rfl, SqT.of hmp, rfl, _, _, rfl, _, _, rfl, rfl, ?_⟩
      refine ⟨_, rfl, _, _, rfl, rfl, _, rfl, ?_⟩
      by_cases c1 : 3 < (measB f t.body).2
      · rw [if_pos c1] at k2
        exact iteDT (by omega) (mk_exc fun d H7 s7 _ hx => k2 _ rfl d H7 (s06.trans s7) hx)
      · rw [if_neg c1] at k1 k2
        refine iteDF (by omega) ⟨_, rfl, _, _, rfl, rfl, _, rfl, ?_⟩
        by_cases c2 : 150 < (measB f t.body).1
        · rw [if_pos c2] at k2
          exact iteDT (by omega) (mk_exc fun d H7 s7 _ hx => k2 _ rfl d H7 (s06.trans s7) hx)
        · rw [if_neg c2] at k1
          exact iteDF (by omega) (k1 rfl H6 s06)
    · rw [if_pos hc] at k2
      refine ⟨_, rfl, rfl, _, rfl, iteT ?_⟩
      exact mk_exc fun d H7 s7 _ hx => k2 _ rfl d H7 ((s04.trans s5).trans s7) hx
end
end OS

namespace OS
open PySem PySem.Spec PyProof.Rows L2
/-! ### calls, sizes, structurally -/
mutual
def cSs : Stm → List Str
  | .call q _ => [q]
  | .ite _ _ y n => cBs y ++ cBs n
  | .whl _ _ b => cBs b
  | .msg _ _ _ _ _ => []
  | .set _ _ _ => []
  | .ask _ _ => []
def cBs : List Stm → List Str
  | [] => []
  | s :: r => cSs s ++ cBs r
end
mutual
theorem calls_sS (l : Nat) : ∀ s : Stm, (preS l s).filterMap (fun p => callS p.1) = cSs s
  | .call q es => by simp [preS, cSs, callS]
  | .ite e v y n => by
    rw [preS, cSs, List.filterMap_cons]
    show (preB l y ++ preB l n).filterMap (fun p => callS p.1) = _
    rw [List.filterMap_append, calls_sB l y, calls_sB l n]
  | .whl e v b => by
    rw [preS, cSs, List.filterMap_cons]
    exact calls_sB (l + 1) b
  | .msg _ _ _ _ _ => by simp [preS, cSs, callS]
  | .set _ _ _ => by simp [preS, cSs, callS]
  | .ask _ _ => by simp [preS, cSs, callS]
theorem calls_sB (l : Nat) : ∀ b : List Stm, (preB l b).filterMap (fun p => callS p.1) = cBs b
  | [] => by simp [preB, cBs]
  | s :: r => by simp [preB, cBs, calls_sS l s, calls_sB l r]
end
theorem callsB_eq (b : List Stm) : callsB b = cBs b := calls_sB 0 b
mutual
def manyS (f : Str → Nat × Nat) : Stm → Nat
  | .call q _ => (f q).1
  | .ite _ _ y n => 1 + (manyB f y + manyB f n)
  | .whl _ _ b => 1 + manyB f b
  | .msg _ _ _ _ _ => 1
  | .set _ _ _ => 1
  | .ask _ _ => 1
def manyB (f : Str → Nat × Nat) : List Stm → Nat
  | [] => 0
  | s :: r => manyS f s + manyB f r
end
mutual
def deepS (f : Str → Nat × Nat) : Stm → Nat
  | .call q _ => (f q).2
  | .ite _ _ y n => max (deepB f y) (deepB f n)
  | .whl _ _ b => deepB f b + 1
  | .msg _ _ _ _ _ => 0
  | .set _ _ _ => 0
  | .ask _ _ => 0
def deepB (f : Str → Nat × Nat) : List Stm → Nat
  | [] => 0
  | s :: r => max (deepS f s) (deepB f r)
end
theorem fold_app (f : Str → Nat × Nat) (acc : Nat × Nat) (a b : List (Stm × Nat)) : (a ++ b).foldl (szStep f) acc = b.foldl (szStep f) (a.foldl (szStep f) acc) := List.foldl_append
mutual
theorem fold_S (f : Str → Nat × Nat) : ∀ (s : Stm) (l : Nat) (acc : Nat × Nat), (preS l s).foldl (szStep f) acc = (acc.1 + manyS f s, max acc.2 (l + deepS f s))
  | .call q es, l, acc => by simp only [preS, List.foldl_cons, List.foldl_nil, szStep, manyS, deepS]
  | .ite e v y n, l, acc => by
    simp only [preS, List.foldl_cons, fold_app]
    rw [fold_B f y l, fold_B f n l]
    simp only [szStep, manyS, deepS]
    refine Prod.ext ?_ ?_
    · show acc.1 + 1 + manyB f y + manyB f n = acc.1 + (1 + (manyB f y + manyB f n))
      omega
    · show max (max (max acc.2 l) (if y = [] then 0 else l + deepB f y)) (if n = [] then 0 else l + deepB f n) = max acc.2 (l + max (deepB f y) (deepB f n))
      have h1 : y = [] → deepB f y = 0 := fun z => by rw [z]; simp [deepB]
      have h2 : n = [] → deepB f n = 0 := fun z => by rw [z]; simp [deepB]
      by_cases c1 : y = [] <;> by_cases c2 : n = [] <;> simp only [c1, c2, if_true, if_false] <;> simp only [c1, c2, if_true, if_false, forall_const] at h1 h2 <;> omega
  | .whl e v b, l, acc => by
    simp only [preS, List.foldl_cons]
    rw [fold_B f b (l + 1)]
    simp only [szStep, manyS, deepS]
    refine Prod.ext ?_ ?_
    · show acc.1 + 1 + manyB f b = acc.1 + (1 + manyB f b)
      omega
    · show max (max acc.2 (l + 1)) (if b = [] then 0 else l + 1 + deepB f b) = max acc.2 (l + (deepB f b + 1))
      have h1 : b = [] → deepB f b = 0 := fun z => by rw [z]; simp [deepB]
      by_cases c1 : b = [] <;> simp only [c1, if_true, if_false] <;> simp only [c1, if_true, if_false, forall_const] at h1 <;> omega
  | .msg _ _ _ _ _, l, acc => by simp only [preS, List.foldl_cons, List.foldl_nil, szStep, manyS, deepS, Nat.add_zero]
  | .set _ _ _, l, acc => by simp only [preS, List.foldl_cons, List.foldl_nil, szStep, manyS, deepS, Nat.add_zero]
  | .ask _ _, l, acc => by simp only [preS, List.foldl_cons, List.foldl_nil, szStep, manyS, deepS, Nat.add_zero]
theorem fold_B (f : Str → Nat × Nat) : ∀ (b : List Stm) (l : Nat) (acc : Nat × Nat), (preB l b).foldl (szStep f) acc = (acc.1 + manyB f b, max acc.2 (if b = [] then 0 else l + deepB f b))
  | [], l, acc => by simp [preB, manyB]
  | s :: r, l, acc => by
    simp only [preB, fold_app]
    rw [fold_S f s l, fold_B f r l]
    simp only [manyB, deepB]
    refine Prod.ext ?_ ?_
    · show acc.1 + manyS f s + manyB f r = acc.1 + (manyS f s + manyB f r)
      omega
    · have h1 : r = [] → deepB f r = 0 := fun z => by rw [z]; simp [deepB]
      show max (max acc.2 (l + deepS f s)) (if r = [] then 0 else l + deepB f r) = max acc.2 (if s :: r = [] then 0 else l + max (deepS f s) (deepB f r))
      rw [if_neg (show ¬ s :: r = [] by simp)]
      by_cases c1 : r = []
      · have := h1 c1
        rw [if_pos c1]
        omega
      · rw [if_neg c1]
        omega
end
theorem meas_eq (f : Str → Nat × Nat) (b : List Stm) : measB f b = (manyB f b, deepB f b) := by
  unfold measB
  rw [fold_B]
  refine Prod.ext (Nat.zero_add _) ?_
  have h1 : b = [] → deepB f b = 0 := fun z => by rw [z]; simp [deepB]
  show max 0 (if b = [] then 0 else 0 + deepB f b) = deepB f b
  by_cases c : b = []
  · rw [if_pos c, h1 c]
    rfl
  · rw [if_neg c]
    omega
/-! ### played out blocks -/
abbrev CallF := (Str → Str) → Str → List Str → List Stm
mutual
def exS (cf : CallF) (m : Str → Str) : Stm → List Stm
  | .msg a b l v x => [.msg (m a) (m b) l v x]
  | .set e x v => [.set (m e) x v]
  | .ask e x => [.ask (m e) x]
  | .call q es => cf m q es
  | .ite e v y n => [.ite (m e) v (exB cf m y) (exB cf m n)]
  | .whl e v b => [.whl (m e) v (exB cf m b)]
def exB (cf : CallF) (m : Str → Str) : List Stm → List Stm
  | [] => []
  | s :: r => exS cf m s ++ exB cf m r
end
/-- the names inside of a part -/
def bindN : List Str → List Str → Str → Str
  | p :: ps, e :: es => fun x => if x = p then e else bindN ps es x
  | _, _ => fun x => x
def findP (parts : List Prt) (q : Str) : Option Prt := parts.find? fun p => decide (p.name = q)
def callN (parts : List Prt) : Nat → CallF
  | 0 => fun _ _ _ => []
  | n + 1 => fun m q es => match findP parts q with
    | some p => exB (callN parts n) (bindN p.params (es.map m)) p.body
    | none => []
mutual
theorem exS_congr {cf cg : CallF} {m : Str → Str} : ∀ s : Stm, (∀ q ∈ cSs s, ∀ m es, cf m q es = cg m q es) → exS cf m s = exS cg m s
  | .call q es, h => by simp only [exS]; exact h q (by simp [cSs]) m es
  | .ite e v y n, h => by
    simp only [exS]
    rw [exB_congr y fun q hq => h q (by simp only [cSs]; exact List.mem_append_left _ hq), exB_congr n fun q hq => h q (by simp only [cSs]; exact List.mem_append_right _ hq)]
  | .whl e v b, h => by
    simp only [exS]
    rw [exB_congr b fun q hq => h q (by simp only [cSs]; exact hq)]
  | .msg _ _ _ _ _, h => by simp only [exS]
  | .set _ _ _, h => by simp only [exS]
  | .ask _ _, h => by simp only [exS]
theorem exB_congr {cf cg : CallF} {m : Str → Str} : ∀ b : List Stm, (∀ q ∈ cBs b, ∀ m es, cf m q es = cg m q es) → exB cf m b = exB cg m b
  | [], h => by simp only [exB]
  | s :: r, h => by
    simp only [exB]
    rw [exS_congr s fun q hq => h q (by simp only [cBs]; exact List.mem_append_left _ hq), exB_congr r fun q hq => h q (by simp only [cBs]; exact List.mem_append_right _ hq)]
end
theorem exB_app (cf : CallF) (m : Str → Str) : ∀ a b : List Stm, exB cf m (a ++ b) = exB cf m a ++ exB cf m b
  | [], b => by simp [exB]
  | s :: r, b => by simp only [List.cons_append, exB, exB_app cf m r b, List.append_assoc]
theorem findP_of {parts : List Prt} (nd : (namesP parts).Nodup) {p : Prt} (hp : p ∈ parts) : findP parts p.name = some p := by
  unfold findP
  cases h : parts.find? fun q => decide (q.name = p.name) with
  | none =>
    rw [List.find?_eq_none] at h
    exact absurd (decide_eq_true rfl) (h p hp)
  | some q =>
    have h1 := List.mem_of_find?_eq_some h
    have h2 : q.name = p.name := by
      have := List.find?_some h
      exact of_decide_eq_true this
    rw [part_eq nd h1 hp h2]
theorem bound_of {α : Type} (Pr : α → Nat → Prop) (up : ∀ a k j, Pr a k → k ≤ j → Pr a j) : ∀ l : List α, (∀ a ∈ l, ∃ k, Pr a k) → ∃ k, ∀ a ∈ l, Pr a k
  | [], _ => ⟨0, fun a h => by cases h⟩
  | a :: r, h => by
    obtain ⟨k, hk⟩ := bound_of Pr up r fun b hb => h b (List.mem_cons_of_mem _ hb)
    obtain ⟨j, hj⟩ := h a (List.mem_cons_self ..)
    refine ⟨max k j, fun b hb => ?_⟩
    rcases List.mem_cons.mp hb with rfl | hb
    · exact up _ _ _ hj (by omega)
    · exact up _ _ _ (hk b hb) (by omega)
/-- from k on, calls of this part are played out in the same way -/
def Stb (parts : List Prt) (n : Str) (k : Nat) : Prop := ∀ j, k ≤ j → ∀ m es, callN parts j m n es = callN parts k m n es
theorem Stb.up {parts : List Prt} {n : Str} {k j : Nat} (h : Stb parts n k) (e : k ≤ j) : Stb parts n j := fun i hi m es => by rw [h i (by omega), h j e]
theorem siz_stb {parts : List Prt} (nd : (namesP parts).Nodup) {n : Str} {x : Nat × Nat} (h : Siz parts n x) : ∃ k, Stb parts n k := by
  induction h with
  | @mk p f hp _ ih =>
    obtain ⟨k, hk⟩ := bound_of (fun q k => Stb parts q k) (fun _ _ _ h e => h.up e) (callsB p.body) ih
    refine ⟨k + 1, fun j hj m es => ?_⟩
    obtain ⟨i, rfl⟩ : ∃ i, j = i + 1 := ⟨j - 1, by omega⟩
    simp only [callN, findP_of nd hp]
    exact exB_congr p.body fun q hq m es => by
      rw [← callsB_eq] at hq
      exact hk q hq i (by omega) m es
/-- all parts have sizes: none is called in circles -/
def AllSiz (parts : List Prt) : Prop := ∀ p ∈ parts, Siz parts p.name (szOf parts p.name)
open Classical in
noncomputable def cfN (parts : List Prt) : Nat := if h : ∃ k, ∀ p ∈ parts, Stb parts p.name k then choose h else 0
/-- what a call plays -/
noncomputable def cfix (parts : List Prt) : CallF := callN parts (cfN parts)
theorem cfix_eq {parts : List Prt} (nd : (namesP parts).Nodup) (al : AllSiz parts) (hin : ∀ p ∈ parts, ∀ q ∈ callsB p.body, q ∈ namesP parts) {p : Prt} (hp : p ∈ parts) (m : Str → Str) (es : List Str) : cfix parts m p.name es = exB (cfix parts) (bindN p.params (es.map m)) p.body := by
  have hx : ∃ k, ∀ p ∈ parts, Stb parts p.name k := bound_of (fun (p : Prt) k => Stb parts p.name k) (fun _ _ _ h e => Stb.up h e) parts fun q hq => siz_stb nd (al q hq)
  have hk : ∀ p ∈ parts, Stb parts p.name (cfN parts) := by
    unfold cfN
    rw [dif_pos hx]
    exact Classical.choose_spec hx
  unfold cfix
  rw [← hk p hp (cfN parts + 1) (by omega)]
  simp only [callN, findP_of nd hp]
mutual
theorem many_exS {cf : CallF} {f : Str → Nat × Nat} {m : Str → Str} : ∀ s : Stm, (∀ q ∈ cSs s, ∀ m es, nB (cf m q es) = (f q).1) → nB (exS cf m s) = manyS f s
  | .call q es, h => by simp only [exS, manyS]; exact h q (by simp [cSs]) m es
  | .ite e v y n, h => by
    simp only [exS, manyS, nB, nS]
    rw [many_exB y fun q hq => h q (by simp only [cSs]; exact List.mem_append_left _ hq), many_exB n fun q hq => h q (by simp only [cSs]; exact List.mem_append_right _ hq)]
    omega
  | .whl e v b, h => by
    simp only [exS, manyS, nB, nS]
    rw [many_exB b fun q hq => h q (by simp only [cSs]; exact hq)]
    omega
  | .msg _ _ _ _ _, h => by simp only [exS, manyS, nB, nS]
  | .set _ _ _, h => by simp only [exS, manyS, nB, nS]
  | .ask _ _, h => by simp only [exS, manyS, nB, nS]
theorem many_exB {cf : CallF} {f : Str → Nat × Nat} {m : Str → Str} : ∀ b : List Stm, (∀ q ∈ cBs b, ∀ m es, nB (cf m q es) = (f q).1) → nB (exB cf m b) = manyB f b
  | [], h => by simp only [exB, manyB, nB]
  | s :: r, h => by
    simp only [exB, manyB]
    rw [nB_app, many_exS s fun q hq => h q (by simp only [cBs]; exact List.mem_append_left _ hq), many_exB r fun q hq => h q (by simp only [cBs]; exact List.mem_append_right _ hq)]
theorem nB_app : ∀ a b : List Stm, nB (a ++ b) = nB a + nB b
  | [], b => by simp [nB]
  | x :: r, b => by simp only [List.cons_append, nB, nB_app r b]; omega
end
theorem cfix_many {parts : List Prt} (nd : (namesP parts).Nodup) (al : AllSiz parts) (hin : ∀ p ∈ parts, ∀ q ∈ callsB p.body, q ∈ namesP parts) {n : Str} {x : Nat × Nat} (h : Siz parts n x) : ∀ m es, nB (cfix parts m n es) = x.1 := by
  induction h with
  | @mk p f hp hs ih =>
    intro m es
    rw [cfix_eq nd al hin hp, many_exB (f := f) p.body fun q hq m es => ih q (by rw [callsB_eq]; exact hq) m es, meas_eq]
theorem ex_many {parts : List Prt} (nd : (namesP parts).Nodup) (al : AllSiz parts) (hin : ∀ p ∈ parts, ∀ q ∈ callsB p.body, q ∈ namesP parts) {b : List Stm} (hb : ∀ q ∈ callsB b, q ∈ namesP parts) (m : Str → Str) : nB (exB (cfix parts) m b) = (measB (szOf parts) b).1 := by
  rw [many_exB (f := szOf parts) b fun q hq m es => ?_, meas_eq]
  obtain ⟨p, hp, rfl⟩ := List.mem_map.mp (hb q (by rw [callsB_eq]; exact hq))
  exact cfix_many nd al hin (al p hp) m es
/-! ### rows -/
def flS : Stm → Dt
  | .msg a b l v x => .tup [.str "message", .str a, .str b, .str l, v.dt, .str x]
  | .set e x v => .tup [.str "set", .str e, .str x, v.dt]
  | .ask e x => .tup [.str "ask", .str e, .str x]
  | .call q es => .tup [.str "call", .str q, namesDt es]
  | .ite e v _ _ => .tup [.str "if", .str e, v.dt]
  | .whl e v _ => .tup [.str "while", .str e, v.dt]
structure Row where
  st : Stm
  ow : Int
  br : Nat
mutual
def numS (pos : Nat) (o : Int) (br : Nat) : Stm → List Row
  | .ite e v y n => ⟨.ite e v y n, o, br⟩ :: (numB (pos + 1) (pos : Nat) 0 y ++ numB (pos + 1 + nB y) (pos : Nat) 1 n)
  | .whl e v b => ⟨.whl e v b, o, br⟩ :: numB (pos + 1) (pos : Nat) 0 b
  | .msg a b l v x => [⟨.msg a b l v x, o, br⟩]
  | .set e x v => [⟨.set e x v, o, br⟩]
  | .ask e x => [⟨.ask e x, o, br⟩]
  | .call q es => [⟨.call q es, o, br⟩]
def numB (pos : Nat) (o : Int) (br : Nat) : List Stm → List Row
  | [] => []
  | s :: r => numS pos o br s ++ numB (pos + nS s) o br r
end
mutual
theorem numS_len : ∀ (s : Stm) (pos : Nat) (o : Int) (br : Nat), (numS pos o br s).length = nS s
  | .ite e v y n, pos, o, br => by simp only [numS, nS, List.length_cons, List.length_append, numB_len y, numB_len n]; omega
  | .whl e v b, pos, o, br => by simp only [numS, nS, List.length_cons, numB_len b]; omega
  | .msg _ _ _ _ _, pos, o, br => by simp [numS, nS]
  | .set _ _ _, pos, o, br => by simp [numS, nS]
  | .ask _ _, pos, o, br => by simp [numS, nS]
  | .call _ _, pos, o, br => by simp [numS, nS]
theorem numB_len : ∀ (b : List Stm) (pos : Nat) (o : Int) (br : Nat), (numB pos o br b).length = nB b
  | [], pos, o, br => by simp [numB, nB]
  | s :: r, pos, o, br => by simp only [numB, nB, List.length_append, numS_len s, numB_len r]
end
theorem numB_app (o : Int) (br : Nat) : ∀ (a b : List Stm) (pos : Nat), numB pos o br (a ++ b) = numB pos o br a ++ numB (pos + nB a) o br b
  | [], b, pos => by simp [numB, nB]
  | s :: r, b, pos => by simp only [List.cons_append, numB, nB, numB_app o br r b, List.append_assoc, Nat.add_assoc]
end OS

/-! Lists of values that are told one by one. -/
namespace OS
open PySem PySem.Spec PyProof.Rows L2
def LR {α : Type} (R : α → V → Prop) : List α → List V → Prop
  | [], vs => vs = []
  | x :: r, vs => ∃ v q, vs = v :: q ∧ R x v ∧ LR R r q
section
variable {α : Type} {R S : α → V → Prop}
theorem LR.len : ∀ {l : List α} {vs : List V}, LR R l vs → vs.length = l.length
  | [], vs, h => by unfold LR at h; rw [h]; rfl
  | x :: r, vs, h => by
    unfold LR at h
    obtain ⟨v, q, rfl, _, h⟩ := h
    rw [List.length_cons, List.length_cons, h.len]
theorem LR.mono (k : ∀ x v, R x v → S x v) : ∀ {l : List α} {vs : List V}, LR R l vs → LR S l vs
  | [], vs, h => h
  | x :: r, vs, h => by
    unfold LR at h
    obtain ⟨v, q, rfl, h1, h⟩ := h
    exact ⟨v, q, rfl, k _ _ h1, h.mono k⟩
theorem LR.app : ∀ {a b : List α} {us vs : List V}, LR R a us → LR R b vs → LR R (a ++ b) (us ++ vs)
  | [], b, us, vs, h1, h2 => by
    unfold LR at h1
    subst h1
    exact h2
  | x :: r, b, us, vs, h1, h2 => by
    unfold LR at h1
    obtain ⟨v, q, rfl, hd, h⟩ := h1
    exact ⟨v, _, rfl, hd, h.app h2⟩
theorem LR.one {x : α} {v : V} (h : R x v) : LR R [x] [v] := ⟨v, [], rfl, h, rfl⟩
theorem LR.rev : ∀ {a : List α} {us : List V}, LR R a us → LR R a.reverse us.reverse
  | [], us, h => by
    unfold LR at h
    subst h
    exact rfl
  | x :: r, us, h => by
    unfold LR at h
    obtain ⟨v, q, rfl, hd, h⟩ := h
    rw [List.reverse_cons, List.reverse_cons]
    exact h.rev.app (LR.one hd)
theorem LR.get : ∀ {l : List α} {vs : List V} {i : Nat} {x : α}, LR R l vs → l[i]? = some x → ∃ v, vs[i]? = some v ∧ R x v
  | [], vs, i, x, h, e => by simp at e
  | a :: r, vs, i, x, h, e => by
    unfold LR at h
    obtain ⟨v, q, rfl, hd, h⟩ := h
    cases i with
    | zero =>
      simp only [List.getElem?_cons_zero, Option.some.injEq] at e
      subst e
      exact ⟨v, rfl, hd⟩
    | succ i =>
      rw [List.getElem?_cons_succ] at e ⊢
      exact h.get e
end
theorem walk_zipT {K : PySem.W.Frag} {a b : Addr} {xs ys : List V} (hl : xs.length = ys.length) : Walk (RZ.ItzT K a b) xs.length (fun H => SqT K H a xs ∧ SqT K H b ys) (YPair (fun i => xs[i]?) (fun i => ys[i]?)) := by
  refine ⟨fun i _ hi q => ?_, fun _ q => ?_, fun i H v H' hi q y => ?_⟩
  · exact ⟨xs, ys, xs[i], ys[i]'(by omega), q.1, q.2, by simp [hi], by simp [show i < ys.length by omega]⟩
  · exact ⟨xs, ys, q.1, q.2, by omega⟩
  · obtain ⟨T, x, z, h1, h2, h3, h4, h5⟩ := y
    exact ⟨T, x, z, h1, h2, h3, h4 xs q.1, h5 ys q.2⟩
end OS

namespace OS
open PySem PySem.Spec PyProof.Rows L2
/-! ### tasks -/
/-- the names inside: a dict at nd -/
def NmAt (H : Hp) (nd : Addr) (dom : List Str) (m : Str → Str) : Prop := H nd = some (.dK (kf dom fun n => .str (m n)))
structure Job where
  st : Stm
  dom : List Str
  m : Str → Str
  ow : Int
  br : Nat
def JobAt (K : PySem.W.Frag) (H : Hp) (t : Job) (v : V) : Prop := ∃ a sv nd, v = .ref a ∧ H a = some (.tup [sv, .ref nd, .int t.ow, .int (t.br : Nat)]) ∧ At K H t.st.dt sv ∧ NmAt H nd t.dom t.m
/-- all but lists are kept -/
def KpL (H H' : Hp) : Prop := ∀ b o, H b = some o → (∀ xs, o ≠ .lst xs) → H' b = some o
theorem KpL.of {H H' : Hp} (s : Same H H') : KpL H H' := fun b o e _ => s b o e
theorem KpL.trans {H H' H'' : Hp} (a : KpL H H') (b : KpL H' H'') : KpL H H'' := fun x o e n => b x o (a x o e n) n
theorem KpL.put {H : Hp} {a : Addr} {xs : List V} {o : HO} (h : H a = some (.lst xs)) : KpL H (upd H a o) := fun b ob e n => by
  rw [upd_ne (fun z => by rw [z, h] at e; cases e; exact n xs rfl)]
  exact e
theorem KpL.new {H : Hp} {a : Addr} {o : HO} (h : H a = none) : KpL H (upd H a o) := KpL.of (same_upd h)
theorem KpL.tup {H H' : Hp} (k : KpL H H') : ∀ b ys, H b = some (.tup ys) → H' b = some (.tup ys) := fun b ys e => k b _ e fun _ z => by cases z
theorem JobAt.kp {K : PySem.W.Frag} {H H' : Hp} (k : KpL H H') {t : Job} {v : V} (h : JobAt K H t v) : JobAt K H' t v := by
  obtain ⟨a, sv, nd, rfl, ha, hs, hn⟩ := h
  exact ⟨a, sv, nd, rfl, k.tup _ _ ha, ky_at k.tup (stm_kable _) hs, k _ _ hn fun _ z => by cases z⟩
def blkT (b : List Stm) (dom : List Str) (m : Str → Str) (ow : Int) (br : Nat) : List Job := b.map fun s => ⟨s, dom, m, ow, br⟩
def renH (m : Str → Str) : Stm → Stm
  | .msg a b l v x => .msg (m a) (m b) l v x
  | .set e x v => .set (m e) x v
  | .ask e x => .ask (m e) x
  | .call q es => .call q es
  | .ite e v y n => .ite (m e) v y n
  | .whl e v b => .whl (m e) v b
section
variable {P : Program} {w : World} {K : PySem.W.Frag} {mg : Str → Option Value} {base : Heap}
def spTasks (K : PySem.W.Frag) : Sp := fun vs H Q _ => ∃ (v : V) (nd : Addr) (b : List Stm) (dom : List Str) (m : Str → Str) (o : Int) (br : Nat), vs = [v, .ref nd, .int o, .int (br : Nat)] ∧ At K H (blkDt b) v ∧ NmAt H nd dom m ∧ b.length ≤ 10000 ∧
  ∀ p us H', Same H H' → H p = none → H' p = some (.lst us) → LR (JobAt K H') (blkT b dom m o br).reverse us → Q (.ref p) H'
theorem inV2 {k a b : Str} (h1 : ¬ k = a) (h2 : ¬ k = b) : inV (.str k) [.str a, .str b] = false := by
  have := inV_str k [a, b]
  rw [show [V.str a, V.str b] = ([a, b] : List Str).map V.str from rfl, this]
  simp [h1, h2]
theorem ok_tasks {f : Addr} {fd : FuncData} (F : Fun K "tasks" "tasks" s_tasks f fd) (T : Txt K mg) : FnOk P w K mg base CX0 1 f fd ["block", "names", "owner", "branch"] (spTasks K) := by
  refine F.ok sc_tasks (fun vs H Q E h => ?_) (fun cdv A outer s H vs Q E hr h => ?_)
  · obtain ⟨v, nd, b, dom, m, o, br, rfl, _⟩ := h
    rfl
  · obtain ⟨v, nd, b, dom, m, o, br, rfl, hat, hn, hl, k⟩ := h
    unfold blkDt At at hat
    obtain ⟨bp, bs, rfl, hb, hA⟩ := hat
    rw [blkDts_map] at hA
    have lb := hA.length
    rw [List.length_map] at lb
    refine ⟨_, (pss_one (ps_ret (pe_lc (own := [("statement", 4)]) (g := gName 4) (by rfl) sc_tasks.nd (pi_tup (pe_revT (pv 0))) (blkOk_by (N := ["block", "names", "owner", "branch", "statement"]) (sc := defScope s_tasks) (by decide +kernel)) (fun _ _ _ _ _ => pg_name (i := 4) sc_tasks.nd rfl (by first | exact Or.inl rfl | exact Or.inr rfl)) (fun _ _ _ _ _ => pts_nil) (fun _ _ _ _ _ => (pe_tup (pa_cons (pv 4) (pa_cons (pv 1) (pa_cons (pv 2) (pa_cons (pv 3) pa_nil))))))))), ?_⟩
    refine ⟨_, rfl, bp, _, rfl, SqT.of hb, fun rp nrp => ⟨rp, rfl, ⟨_, SqT.of upd_same⟩, fun wl nwl => ?_⟩⟩
    have s1 := same_upd (o := .tup bs.reverse) nrp
    have hrp : upd H rp (.tup bs.reverse) rp = some (.tup bs.reverse) := upd_same
    have hAr := (AtL.keep s1 hA).rev
    have hn1 := s1 _ _ hn
    generalize upd H rp (.tup bs.reverse) = H1 at s1 hrp hAr hn1 nwl
    rw [← List.map_reverse] at hAr
    refine lc_it (walk_tup (K := K) (a := rp) (xs := bs.reverse)) (fun i H' => ∃ acc, H' wl = some (.lst acc) ∧ LR (JobAt K H') (blkT (b.reverse.take i) dom m o br) acc ∧ Same H1 H') ⟨[], upd_same, by rw [List.take_zero]; exact rfl, same_upd nwl⟩ (fun i H' _ q => by obtain ⟨_, _, _, sm⟩ := q; exact SqT.of (sm _ _ hrp)) ?_ ?_
    · rintro i x H2 H2 hi ⟨acc, hw, hL, s2⟩ ⟨rfl, hx⟩
      have hi2 : i < b.reverse.length := by rw [List.length_reverse] at hi ⊢; omega
      obtain ⟨v, e1, e2⟩ := hAr.get (i := i) (d := b.reverse[i].dt) (by rw [List.getElem?_map, List.getElem?_eq_getElem hi2]; rfl)
      rw [hx] at e1
      cases e1
      have ll := hL.len
      refine ⟨rfl, iteT (B := True) ⟨_, rfl, _, rfl, _, rfl, _, rfl, by show 4 ≤ sizeLine; decide, fun t nt => ?_⟩⟩
      have s3 := same_upd (o := .tup [x, .ref nd, .int o, .int (br : Nat)]) nt
      have hw3 := s3 _ _ hw
      have e3 := At.keep (s2.trans s3) e2
      have hn3 := (s2.trans s3) _ _ hn1
      have ht3 : upd H2 t (.tup [x, .ref nd, .int o, .int (br : Nat)]) t = some (.tup [x, .ref nd, .int o, .int (br : Nat)]) := upd_same
      have hL3 := hL.mono fun q v h => JobAt.kp (KpL.of s3) h
      have s13 := s2.trans s3
      refine ⟨acc, hw3, ?_, acc ++ [.ref t], upd_same, ?_, same_off nwl s13⟩
      · rw [ll]
        unfold blkT
        rw [List.length_map, List.length_take]
        exact sz6' (by rw [List.length_reverse] at hi2 ⊢; omega)
      · unfold blkT at hL3 ⊢
        rw [List.take_add_one, List.getElem?_eq_getElem hi2, List.map_append]
        exact (hL3.mono fun q v h => JobAt.kp (KpL.put hw3) h).app (LR.one (JobAt.kp (KpL.put hw3) ⟨t, x, nd, rfl, ht3, e3, hn3⟩))
    · rintro H2 ⟨acc, hw, hL, s2⟩
      rw [List.take_of_length_le (by rw [List.length_reverse, List.length_reverse]; omega)] at hL
      refine k wl acc H2 (s1.trans s2) (s1.free nwl) hw ?_
      unfold blkT at hL ⊢
      rw [← List.map_reverse]
      exact hL
/-- the names that a statement needs -/
def inDom (dom : List Str) (s : Stm) : Prop := ∀ e ∈ endsS s, e ∈ dom
theorem nm_get {H : Hp} {nd : Addr} {dom : List Str} {m : Str → Str} (h : NmAt H nd dom m) {e : Str} (he : e ∈ dom) : DGet H nd (.str e) (some (.str (m e))) := by
  have := DGet.k (k := Sum.inr e) h
  rw [kf_in he] at this
  exact this
def isCall : Stm → Bool
  | .call _ _ => true
  | _ => false
def spRen (K : PySem.W.Frag) : Sp := fun vs H Q _ => ∃ (v : V) (nd : Addr) (s : Stm) (dom : List Str) (m : Str → Str), vs = [v, .ref nd] ∧ At K H s.dt v ∧ NmAt H nd dom m ∧ inDom dom s ∧ isCall s = false ∧
  ∀ r H', Same H H' → At K H' (flS (renH m s)) r → Q r H'
theorem ok_renamed {f : Addr} {fd : FuncData} (F : Fun K "renamed" "renamed" s_renamed f fd) (T : Txt K mg) : FnOk P w K mg base CX0 1 f fd ["statement", "names"] (spRen K) := by
  refine F.ok sc_renamed (fun vs H Q E h => ?_) (fun cdv A outer s H vs Q E hr h => ?_)
  · obtain ⟨v, nd, x, dom, m, rfl, _⟩ := h
    rfl
  · obtain ⟨v, nd, x, dom, m, rfl, hat, hn, hd, hc, k⟩ := h
    have hu := hu_of hr
    refine ⟨_, (pss_cons (ps_set (i := 2) sc_renamed.nd rfl (.inl rfl) (pe_ix ix_tup (pv 0) pe_int (fun _ _ => rfl)))
      (pss_cons (ps_set (i := 3) sc_renamed.nd rfl (.inl rfl) (pe_dget hu (pv 1) (pe_ix ix_tup (pv 0) pe_int (fun _ _ => rfl)) (fun _ _ => rfl)))
      (pss_cons (ps_if (pt_cmpR op_eq (pv 2) pe_str (nomark _)) (pss_one (ps_ret (pe_tup (pa_cons (pv 2) (pa_cons (pv 3) (pa_cons (pe_dget hu (pv 1) (pe_ix ix_tup (pv 0) pe_int (fun _ _ => rfl)) (fun _ _ => rfl)) (pa_cons (pe_ix ix_tup (pv 0) pe_int (fun _ _ => rfl)) (pa_cons (pe_ix ix_tup (pv 0) pe_int (fun _ _ => rfl)) (pa_cons (pe_ix ix_tup (pv 0) pe_int (fun _ _ => rfl)) pa_nil))))))))) pss_nil)
      (pss_cons (ps_if (pt_cmpR op_in_seq (pv 2) (pe_tup (pa_cons pe_str (pa_cons pe_str pa_nil))) (by rfl)) (pss_one (ps_ret (pe_tup (pa_cons (pv 2) (pa_cons (pv 3) (pa_cons (pe_ix ix_tup (pv 0) pe_int (fun _ _ => rfl)) pa_nil)))))) pss_nil)
      (pss_one (ps_ret (pe_op op_catT (pe_tup (pa_cons (pv 2) (pa_cons (pv 3) pa_nil))) (pe_slice sl_tupA (pv 0) (po_some pe_int) po_none)))))))), ?_⟩
    cases x with
    | call q es => cases hc
    | msg a b l v x =>
      unfold Stm.dt At at hat
      obtain ⟨p, vs, rfl, hp, hl⟩ := hat
      simp only [AtL] at hl
      obtain ⟨v0, _, rfl, h0, v1, _, rfl, h1, v2, _, rfl, h2, v3, _, rfl, h3, v4, _, rfl, h4, v5, _, rfl, h5, rfl⟩ := hl
      have h0' := h0
      have h3' := h3
      have h5' := h5
      unfold At at h0 h1 h2
      subst h0 h1 h2
      have g1 := nm_get hn (hd a (by simp [endsS]))
      have g2 := nm_get hn (hd b (by simp [endsS]))
      refine ⟨_, rfl, p, _, _, _, rfl, rfl, SqT.of hp, atI_nat (j := 0) rfl, _, rfl, _, rfl, p, _, _, _, rfl, rfl, SqT.of hp, atI_nat (j := 1) rfl, nd, _, rfl, g1, ?_⟩
      refine ⟨_, rfl, rfl, _, rfl, iteDT rfl ?_⟩
      refine ⟨_, rfl, _, rfl, _, rfl, _, rfl, p, _, _, _, rfl, rfl, SqT.of hp, atI_nat (j := 2) rfl, nd, _, rfl, g2, _, rfl, p, _, _, _, rfl, rfl, SqT.of hp, atI_nat (j := 3) rfl, _, rfl, p, _, _, _, rfl, rfl, SqT.of hp, atI_nat (j := 4) rfl, _, rfl, p, _, _, _, rfl, rfl, SqT.of hp, atI_nat (j := 5) rfl, by show 6 ≤ sizeLine; decide, fun t nt => ?_⟩
      have s1 := same_upd (o := .tup [.str "message", .str (m a), .str (m b), v3, v4, v5]) nt
      refine k _ _ s1 ?_
      simp only [renH, flS, At, AtL]
      exact ⟨t, _, rfl, upd_same, _, _, rfl, rfl, _, _, rfl, rfl, _, _, rfl, rfl, _, _, rfl, by unfold At at h3'; exact h3', _, _, rfl, At.keep s1 h4, _, _, rfl, by unfold At at h5'; exact h5', rfl⟩
    | ite e vv y n =>
      unfold Stm.dt At at hat
      obtain ⟨p, vs, rfl, hp, hl⟩ := hat
      simp only [AtL] at hl
      obtain ⟨v0, _, rfl, h0, v1, _, rfl, h1, v2, _, rfl, h2, v3, _, rfl, h3, v4, _, rfl, h4, rfl⟩ := hl
      unfold At at h0 h1
      subst h0 h1
      have g1 := nm_get hn (hd e (by simp [endsS]))
      refine ⟨_, rfl, p, _, _, _, rfl, rfl, SqT.of hp, atI_nat (j := 0) rfl, _, rfl, _, rfl, p, _, _, _, rfl, rfl, SqT.of hp, atI_nat (j := 1) rfl, nd, _, rfl, g1, ?_⟩
      refine ⟨_, rfl, rfl, _, rfl, iteDF (fun e => absurd (V.str.inj e) (by decide +kernel)) ?_⟩
      refine ⟨_, rfl, by show 2 ≤ sizeLine; decide, fun b nb => ⟨b, _, rfl, .inr (SqT.of upd_same), rfl, rfl, _, rfl, ?_⟩⟩
      have s1 := same_upd (o := .tup [.str "if", .str "while"]) nb
      rw [show inV (.str "if") [.str "if", .str "while"] = true from by decide +kernel]
      refine iteT ⟨_, rfl, _, rfl, _, rfl, p, _, _, _, rfl, rfl, SqT.of (s1 _ _ hp), atI_nat (j := 2) rfl, by show 3 ≤ sizeLine; decide, fun t nt => ?_⟩
      have s2 := s1.trans (same_upd (o := .tup [.str "if", .str (m e), v2]) nt)
      refine k _ _ s2 ?_
      simp only [renH, flS, At, AtL]
      exact ⟨t, _, rfl, upd_same, _, _, rfl, rfl, _, _, rfl, rfl, _, _, rfl, At.keep s2 h2, rfl⟩
    | whl e vv y =>
      unfold Stm.dt At at hat
      obtain ⟨p, vs, rfl, hp, hl⟩ := hat
      simp only [AtL] at hl
      obtain ⟨v0, _, rfl, h0, v1, _, rfl, h1, v2, _, rfl, h2, v3, _, rfl, h3, rfl⟩ := hl
      have h2' := h2
      unfold At at h0 h1
      subst h0 h1
      have g1 := nm_get hn (hd e (by simp [endsS]))
      refine ⟨_, rfl, p, _, _, _, rfl, rfl, SqT.of hp, atI_nat (j := 0) rfl, _, rfl, _, rfl, p, _, _, _, rfl, rfl, SqT.of hp, atI_nat (j := 1) rfl, nd, _, rfl, g1, ?_⟩
      refine ⟨_, rfl, rfl, _, rfl, iteDF (fun e => absurd (V.str.inj e) (by decide +kernel)) ?_⟩
      refine ⟨_, rfl, by show 2 ≤ sizeLine; decide, fun b nb => ⟨b, _, rfl, .inr (SqT.of upd_same), rfl, rfl, _, rfl, ?_⟩⟩
      have s1 := same_upd (o := .tup [.str "if", .str "while"]) nb
      rw [show inV (.str "while") [.str "if", .str "while"] = true from by decide +kernel]
      refine iteT ⟨_, rfl, _, rfl, _, rfl, p, _, _, _, rfl, rfl, SqT.of (s1 _ _ hp), atI_nat (j := 2) rfl, by show 3 ≤ sizeLine; decide, fun t nt => ?_⟩
      have s2 := s1.trans (same_upd (o := .tup [.str "while", .str (m e), v2]) nt)
      refine k _ _ s2 ?_
      simp only [renH, flS, At, AtL]
      exact ⟨t, _, rfl, upd_same, _, _, rfl, rfl, _, _, rfl, rfl, _, _, rfl, At.keep s2 h2, rfl⟩
    | ask e x =>
      unfold Stm.dt At at hat
      obtain ⟨p, vs, rfl, hp, hl⟩ := hat
      simp only [AtL] at hl
      obtain ⟨v0, _, rfl, h0, v1, _, rfl, h1, v2, _, rfl, h2, rfl⟩ := hl
      have h2' := h2
      unfold At at h0 h1
      subst h0 h1
      have g1 := nm_get hn (hd e (by simp [endsS]))
      refine ⟨_, rfl, p, _, _, _, rfl, rfl, SqT.of hp, atI_nat (j := 0) rfl, _, rfl, _, rfl, p, _, _, _, rfl, rfl, SqT.of hp, atI_nat (j := 1) rfl, nd, _, rfl, g1, ?_⟩
      refine ⟨_, rfl, rfl, _, rfl, iteDF (fun e => absurd (V.str.inj e) (by decide +kernel)) ?_⟩
      refine ⟨_, rfl, by show 2 ≤ sizeLine; decide, fun b nb => ⟨b, _, rfl, .inr (SqT.of upd_same), rfl, rfl, _, rfl, ?_⟩⟩
      have s1 := same_upd (o := .tup [.str "if", .str "while"]) nb
      rw [show inV (.str "ask") [.str "if", .str "while"] = false from by decide +kernel]
      refine iteF ⟨_, rfl, _, rfl, by show 2 ≤ sizeLine; decide, fun t nt => ?_⟩
      have s2 := s1.trans (same_upd (o := .tup [.str "ask", .str (m e)]) nt)
      refine ⟨_, rfl, _, rfl, p, _, rfl, SqT.of (s2 _ _ hp), fun w => absurd w.1 (by show ¬ HT.sIx 3 0 (some 2) = 0; decide), fun _ q nq => ?_⟩
      have s3 := s2.trans (same_upd (o := .tup [v2]) nq)
      refine ⟨t, q, _, _, rfl, rfl, SqT.of ((same_upd nq) _ _ upd_same), SqT.of upd_same, by simp, by show 3 ≤ sizeLine; decide, fun z => (by cases z), fun _ u nu => ?_⟩
      have s4 := s3.trans (same_upd (o := .tup [.str "ask", .str (m e), v2]) nu)
      refine k _ _ s4 ?_
      simp only [renH, flS, At, AtL]
      unfold At at h2'
      exact ⟨u, _, rfl, upd_same, _, _, rfl, rfl, _, _, rfl, rfl, _, _, rfl, h2', rfl⟩
    | set e x vv =>
      unfold Stm.dt At at hat
      obtain ⟨p, vs, rfl, hp, hl⟩ := hat
      simp only [AtL] at hl
      obtain ⟨v0, _, rfl, h0, v1, _, rfl, h1, v2, _, rfl, h2, v3, _, rfl, h3, rfl⟩ := hl
      have h2' := h2
      unfold At at h0 h1
      subst h0 h1
      have g1 := nm_get hn (hd e (by simp [endsS]))
      refine ⟨_, rfl, p, _, _, _, rfl, rfl, SqT.of hp, atI_nat (j := 0) rfl, _, rfl, _, rfl, p, _, _, _, rfl, rfl, SqT.of hp, atI_nat (j := 1) rfl, nd, _, rfl, g1, ?_⟩
      refine ⟨_, rfl, rfl, _, rfl, iteDF (fun e => absurd (V.str.inj e) (by decide +kernel)) ?_⟩
      refine ⟨_, rfl, by show 2 ≤ sizeLine; decide, fun b nb => ⟨b, _, rfl, .inr (SqT.of upd_same), rfl, rfl, _, rfl, ?_⟩⟩
      have s1 := same_upd (o := .tup [.str "if", .str "while"]) nb
      rw [show inV (.str "set") [.str "if", .str "while"] = false from by decide +kernel]
      refine iteF ⟨_, rfl, _, rfl, by show 2 ≤ sizeLine; decide, fun t nt => ?_⟩
      have s2 := s1.trans (same_upd (o := .tup [.str "set", .str (m e)]) nt)
      refine ⟨_, rfl, _, rfl, p, _, rfl, SqT.of (s2 _ _ hp), fun w => absurd w.1 (by show ¬ HT.sIx 4 0 (some 2) = 0; decide), fun _ q nq => ?_⟩
      have s3 := s2.trans (same_upd (o := .tup [v2, v3]) nq)
      refine ⟨t, q, _, _, rfl, rfl, SqT.of ((same_upd nq) _ _ upd_same), SqT.of upd_same, by simp, by show 4 ≤ sizeLine; decide, fun z => (by cases z), fun _ u nu => ?_⟩
      have s4 := s3.trans (same_upd (o := .tup [.str "set", .str (m e), v2, v3]) nu)
      refine k _ _ s4 ?_
      simp only [renH, flS, At, AtL]
      unfold At at h2'
      exact ⟨u, _, rfl, upd_same, _, _, rfl, rfl, _, _, rfl, rfl, _, _, rfl, h2', _, _, rfl, At.keep s4 h3, rfl⟩
end
end OS

namespace OS
open PySem PySem.Spec PyProof.Rows L2
/-! ### how long playing out takes -/
inductive Cst (z : Str → Bool) (parts : List Prt) : List Stm → Nat → Prop
  | nil : Cst z parts [] 0
  | call1 {p : Prt} {es : List Str} {r : List Stm} {c d : Nat} : p ∈ parts → z p.name = true → Cst z parts p.body c → Cst z parts r d → Cst z parts (.call p.name es :: r) (1 + c + d)
  | call0 {q : Str} {es : List Str} {r : List Stm} {d : Nat} : z q = false → Cst z parts r d → Cst z parts (.call q es :: r) (1 + d)
  | one {s : Stm} {r : List Stm} {c d : Nat} : isCall s = false → Cst z parts (innerB s).flatten c → Cst z parts r d → Cst z parts (s :: r) (1 + c + d)
theorem Cst.app {z : Str → Bool} {parts : List Prt} {a b : List Stm} {c d : Nat} (h : Cst z parts a c) (h2 : Cst z parts b d) : Cst z parts (a ++ b) (c + d) := by
  induction h with
  | nil => rw [Nat.zero_add]; exact h2
  | call1 hp hz hb _ _ ih => rw [Nat.add_assoc]; exact .call1 hp hz hb ih
  | call0 hz _ ih => rw [Nat.add_assoc]; exact .call0 hz ih
  | one hc hi _ _ ih => rw [Nat.add_assoc]; exact .one hc hi ih
theorem Cst.len {z : Str → Bool} {parts : List Prt} {a : List Stm} {c : Nat} (h : Cst z parts a c) : a.length ≤ c := by
  induction h with
  | nil => exact Nat.le_refl _
  | call1 _ _ _ _ _ ih => rw [List.length_cons]; omega
  | call0 _ _ ih => rw [List.length_cons]; omega
  | one _ _ _ _ ih => rw [List.length_cons]; omega
theorem ar1 {L k x : Nat} (h : 0 < x) : L * (1 + 2 * k * x) ≤ L * (1 + 2 * k) * x :=
  Nat.le_trans (Nat.mul_le_mul_left L (by rw [Nat.add_mul, Nat.one_mul]; omega : 1 + 2 * k * x ≤ (1 + 2 * k) * x)) (Nat.le_of_eq (Nat.mul_assoc L (1 + 2 * k) x).symm)
theorem ar2 (L k x : Nat) : L * (1 + 2 * (k + 1) * x) = L + L * (1 + 2 * k) * x + L * x := by
  have e := Nat.mul_left_comm L 2 x
  simp only [Nat.mul_add, Nat.add_mul, Nat.mul_one, Nat.one_mul, Nat.mul_assoc] at e ⊢
  omega
def zOf (f : Str → Nat × Nat) (q : Str) : Bool := decide (0 < (f q).1)
section
variable {f : Str → Nat × Nat} {parts : List Prt} {L k : Nat}
mutual
theorem cost_S (H : Stm → Prop) : ∀ (s : Stm), (∀ q ∈ cSs s, 0 < (f q).1 → ∃ p ∈ parts, p.name = q ∧ ∃ c, Cst (zOf f) parts p.body c ∧ c ≤ L * (1 + 2 * k * (f q).1)) →
    ∀ (r : List Stm) (d : Nat), Cst (zOf f) parts r d → ∃ c, Cst (zOf f) parts (s :: r) (c + d) ∧ c ≤ nS s + L * (1 + 2 * k) * manyS f s
  | .call q es, h, r, d, hr => by
    by_cases c0 : 0 < (f q).1
    · obtain ⟨p, hp, rfl, c, hc, hle⟩ := h q (by simp [cSs]) c0
      refine ⟨1 + c, .call1 hp (decide_eq_true c0) hc hr, ?_⟩
      have e1 : L * (1 + 2 * k * (f p.name).1) ≤ L * (1 + 2 * k) * (f p.name).1 := ar1 c0
      show 1 + c ≤ nS (.call p.name es) + L * (1 + 2 * k) * (f p.name).1
      simp only [nS]
      omega
    · refine ⟨1, .call0 (decide_eq_false c0) hr, ?_⟩
      simp only [nS]
      omega
  | .ite e v y n, h, r, d, hr => by
    obtain ⟨a, ha, la⟩ := cost_B H y fun q hq => h q (by simp only [cSs]; exact List.mem_append_left _ hq)
    obtain ⟨b, hb, lb⟩ := cost_B H n fun q hq => h q (by simp only [cSs]; exact List.mem_append_right _ hq)
    refine ⟨1 + (a + b), ?_, ?_⟩
    · refine .one rfl ?_ hr
      simp only [innerB, List.flatten_cons, List.flatten_nil, List.append_nil]
      exact ha.app hb
    · simp only [nS, manyS]
      generalize L * (1 + 2 * k) = A at *
      rw [Nat.mul_add, Nat.mul_add]
      omega
  | .whl e v b, h, r, d, hr => by
    obtain ⟨a, ha, la⟩ := cost_B H b fun q hq => h q (by simp only [cSs]; exact hq)
    refine ⟨1 + a, ?_, ?_⟩
    · refine .one rfl ?_ hr
      simp only [innerB, List.flatten_cons, List.flatten_nil, List.append_nil]
      exact ha
    · simp only [nS, manyS]
      generalize L * (1 + 2 * k) = A at *
      rw [Nat.mul_add]
      omega
  | .msg _ _ _ _ _, h, r, d, hr => ⟨1 + 0, .one rfl .nil hr, by simp only [nS]; omega⟩
  | .set _ _ _, h, r, d, hr => ⟨1 + 0, .one rfl .nil hr, by simp only [nS]; omega⟩
  | .ask _ _, h, r, d, hr => ⟨1 + 0, .one rfl .nil hr, by simp only [nS]; omega⟩
theorem cost_B (H : Stm → Prop) : ∀ (b : List Stm), (∀ q ∈ cBs b, 0 < (f q).1 → ∃ p ∈ parts, p.name = q ∧ ∃ c, Cst (zOf f) parts p.body c ∧ c ≤ L * (1 + 2 * k * (f q).1)) →
    ∃ c, Cst (zOf f) parts b c ∧ c ≤ nB b + L * (1 + 2 * k) * manyB f b
  | [], h => ⟨0, .nil, Nat.zero_le _⟩
  | s :: r, h => by
    obtain ⟨d, hd, ld⟩ := cost_B H r fun q hq => h q (by simp only [cBs]; exact List.mem_append_right _ hq)
    obtain ⟨c, hc, lc⟩ := cost_S H s (fun q hq => h q (by simp only [cBs]; exact List.mem_append_left _ hq)) r d hd
    refine ⟨c + d, hc, ?_⟩
    simp only [nB, manyB]
    generalize L * (1 + 2 * k) = A at *
    rw [Nat.mul_add]
    omega
end
end
open Classical in
/-- how many parts this one comes to -/
noncomputable def rkP (parts : List Prt) (n : Str) : Nat := ((namesP parts).filter fun m => decide (m = n ∨ Kn.Pth (callersP parts) m n)).length
open Classical in
theorem rk_le (parts : List Prt) (n : Str) : rkP parts n ≤ parts.length := by
  unfold rkP
  exact Nat.le_trans (List.length_filter_le ..) (by rw [namesP, List.length_map]; exact Nat.le_refl _)
open Classical in
theorem rk_lt {parts : List Prt} (nd : (namesP parts).Nodup) (nc : ¬ Kn.Circ (namesP parts) (callersP parts)) {p : Prt} (hp : p ∈ parts) {q : Str} (hq : q ∈ callsB p.body) : rkP parts q < rkP parts p.name := by
  have hc : p.name ∈ callersP parts q := callers_mem.mpr ⟨p, hp, hq, rfl⟩
  have hn : p.name ∈ namesP parts := List.mem_map.mpr ⟨p, hp, rfl⟩
  have step : ∀ m, (m = q ∨ Kn.Pth (callersP parts) m q) → Kn.Pth (callersP parts) m p.name := fun m h => by
    rcases h with rfl | h
    · exact .one hc
    · exact h.snoc hc
  unfold rkP
  have := List.Nodup.length_le_of_subset (l₁ := p.name :: ((namesP parts).filter fun m => decide (m = q ∨ Kn.Pth (callersP parts) m q))) (l₂ := (namesP parts).filter fun m => decide (m = p.name ∨ Kn.Pth (callersP parts) m p.name)) (List.nodup_cons.mpr ⟨fun h => ?_, nd.filter _⟩) fun m hm => ?_
  · rw [List.length_cons] at this
    exact this
  · have h2 := of_decide_eq_true (List.mem_filter.mp h).2
    exact nc ⟨p.name, hn, step _ h2⟩
  · rcases List.mem_cons.mp hm with rfl | hm
    · exact List.mem_filter.mpr ⟨hn, decide_eq_true (.inl rfl)⟩
    · obtain ⟨h1, h2⟩ := List.mem_filter.mp hm
      exact List.mem_filter.mpr ⟨h1, decide_eq_true (.inr (step _ (of_decide_eq_true h2)))⟩
open Classical in
theorem cost_P {parts : List Prt} (nd : (namesP parts).Nodup) (nc : ¬ Kn.Circ (namesP parts) (callersP parts)) (al : AllSiz parts) (hin : ∀ p ∈ parts, ∀ q ∈ callsB p.body, q ∈ namesP parts) {L : Nat} (hL : ∀ p ∈ parts, nB p.body ≤ L) :
    ∀ (k : Nat) (p : Prt), p ∈ parts → rkP parts p.name ≤ k → 0 < (szOf parts p.name).1 → ∃ c, Cst (zOf (szOf parts)) parts p.body c ∧ c ≤ L * (1 + 2 * k * (szOf parts p.name).1) := by
  intro k
  induction k with
  | zero =>
    intro p hp hk _
    have : 0 < rkP parts p.name := by
      unfold rkP
      exact List.length_pos_of_mem (List.mem_filter.mpr ⟨List.mem_map.mpr ⟨p, hp, rfl⟩, decide_eq_true (.inl rfl)⟩)
    omega
  | succ k ih =>
    intro p hp hk hz
    obtain ⟨c, hc, hle⟩ := cost_B (f := szOf parts) (parts := parts) (L := L) (k := k) (fun _ => True) p.body fun q hq hz => by
      rw [← callsB_eq] at hq
      obtain ⟨p2, hp2, rfl⟩ := List.mem_map.mp (hin p hp q hq)
      have := rk_lt nd nc hp hq
      obtain ⟨c, h1, h2⟩ := ih p2 hp2 (by omega) hz
      exact ⟨p2, hp2, rfl, c, h1, h2⟩
    have em : (szOf parts p.name).1 = manyB (szOf parts) p.body := by
      have h := al p hp
      have h2 : Siz parts p.name (measB (szOf parts) p.body) := .mk hp fun q hq => by
        obtain ⟨p2, hp2, rfl⟩ := List.mem_map.mp (hin p hp q hq)
        exact al p2 hp2
      rw [Siz.det nd h h2, meas_eq]
    refine ⟨c, hc, Nat.le_trans hle ?_⟩
    rw [em] at hz ⊢
    have h1 := hL p hp
    generalize manyB (szOf parts) p.body = x at *
    rw [ar2]
    omega
/-! ### jobs and rows -/
def numW (cf : CallF) : Nat → List Job → List Row
  | _, [] => []
  | pos, t :: r => numB pos t.ow t.br (exS cf t.m t.st) ++ numW cf (pos + nB (exS cf t.m t.st)) r
theorem numW_blk (cf : CallF) (dom : List Str) (m : Str → Str) (o : Int) (br : Nat) (W : List Job) : ∀ (b : List Stm) (pos : Nat), numW cf pos (blkT b dom m o br ++ W) = numB pos o br (exB cf m b) ++ numW cf (pos + nB (exB cf m b)) W
  | [], pos => by simp [blkT, exB, numB, nB]
  | s :: r, pos => by
    have ih := numW_blk cf dom m o br W r (pos + nB (exS cf m s))
    simp only [blkT, List.map_cons, List.cons_append, numW, exB] at ih ⊢
    rw [ih, numB_app, nB_app, List.append_assoc, Nat.add_assoc]
def rowD (r : Row) : Dt := .tup [flS r.st, .int r.ow, .int (r.br : Nat)]
end OS

namespace OS
open PySem PySem.Spec PyProof.Rows L2
theorem bind_at : ∀ {ps es : List Str} {i : Nat} {p e : Str}, ps.Nodup → ps[i]? = some p → es[i]? = some e → bindN ps es p = e
  | [], es, i, p, e, _, h, _ => by simp at h
  | a :: r, [], i, p, e, _, _, h => by simp at h
  | a :: r, b :: t, i, p, e, nd, h1, h2 => by
    rw [List.nodup_cons] at nd
    simp only [bindN]
    cases i with
    | zero =>
      simp only [List.getElem?_cons_zero, Option.some.injEq] at h1 h2
      rw [if_pos h1.symm, h2]
    | succ i =>
      rw [List.getElem?_cons_succ] at h1 h2
      rw [if_neg (fun z => nd.1 (by rw [← z]; exact List.mem_of_getElem? h1))]
      exact bind_at nd.2 h1 h2
theorem call_at {K : PySem.W.Frag} {H : Hp} {q : Str} {es : List Str} {v : V} (h : At K H (Stm.call q es).dt v) : ∃ a b, v = .ref a ∧ H a = some (.tup [.str "call", .str q, .ref b]) ∧ H b = some (.tup (es.map V.str)) := by
  unfold Stm.dt At at h
  obtain ⟨a, vs, rfl, hp, hl⟩ := h
  simp only [AtL] at hl
  obtain ⟨v0, _, rfl, h0, v1, _, rfl, h1, v2, _, rfl, h2, rfl⟩ := hl
  unfold At at h0 h1
  subst h0 h1
  obtain ⟨b, rfl, hb⟩ := names_of h2
  exact ⟨a, b, rfl, hp, hb⟩
/-- what blocks[name] holds -/
def BkAt (K : PySem.W.Frag) (H : Hp) (p : Prt) (b : Addr) : Prop := ∃ pa bv, H b = some (.tup [.ref pa, bv]) ∧ H pa = some (.tup (p.params.map V.str)) ∧ At K H (blkDt p.body) bv
theorem blk_kable2 (b : List Stm) : kable (blkDt b) := by
  simp only [blkDt, kable]
  exact blk_kable b
theorem BkAt.kt {K : PySem.W.Frag} {H H' : Hp} (k : ∀ b ys, H b = some (.tup ys) → H' b = some (.tup ys)) {p : Prt} {b : Addr} (h : BkAt K H p b) : BkAt K H' p b := by
  obtain ⟨pa, bv, h1, h2, h3⟩ := h
  exact ⟨pa, bv, k _ _ h1, k _ _ h2, ky_at k (blk_kable2 _) h3⟩
theorem tup_dict {H : Hp} {a : Addr} {xs : List (Key × V)} {o : HO} (ha : H a = some (.dK xs)) : ∀ b ys, H b = some (.tup ys) → upd H a o b = some (.tup ys) := fun b ys e => by
  rw [upd_ne (fun z => by rw [z, ha] at e; cases e)]
  exact e
section
variable {P : Program} {w : World} {K : PySem.W.Frag} {mg : Str → Option Value} {base : Heap}
def spCallT (K : PySem.W.Frag) : Sp := fun vs H Q _ => ∃ (v : V) (nd bd : Addr) (p : Prt) (es dom : List Str) (m : Str → Str) (o : Int) (br : Nat) (kvs : List (Key × V)) (ba : Addr), vs = [v, .ref nd, .int o, .int (br : Nat), .ref bd] ∧ At K H (Stm.call p.name es).dt v ∧ NmAt H nd dom m ∧ (∀ e ∈ es, e ∈ dom) ∧
  es.length = p.params.length ∧ p.params.Nodup ∧ p.params.length ≤ 4000 ∧ H bd = some (.dK kvs) ∧ valV kvs (Sum.inr p.name) = some (.ref ba) ∧ BkAt K H p ba ∧ p.body.length ≤ 10000 ∧
  ∀ q us H', Same H H' → H q = none → H' q = some (.lst us) → LR (JobAt K H') (blkT p.body p.params (bindN p.params (es.map m)) o br).reverse us → Q (.ref q) H'
theorem ok_call_tasks {f : Addr} {fd : FuncData} (F : Fun K "call_tasks" "call_tasks" s_call_tasks f fd) (T : Txt K mg) {f_tasks : Addr} {d_tasks : FuncData} (c_tasks : Cal P w K mg base 1 "tasks" ["block", "names", "owner", "branch"] (spTasks K) f_tasks d_tasks) : FnOk P w K mg base CX0 2 f fd ["statement", "names", "owner", "branch", "blocks"] (spCallT K) := by
  refine F.ok sc_call_tasks (fun vs H Q E h => ?_) (fun cdv A outer s H vs Q E hr h => ?_)
  · obtain ⟨v, nd, bd, p, es, dom, m, o, br, kvs, ba, rfl, _⟩ := h
    rfl
  · obtain ⟨v, nd, bd, p, es, dom, m, o, br, kvs, ba, rfl, hat, hn, hes, hle, ndp, lp, hbd, hv, ⟨pa, bv, hba, hpa, hbv⟩, hlb, k⟩ := h
    have hu := hu_of hr
    obtain ⟨a, eb, rfl, ha, heb⟩ := call_at hat
    have dg : DGet H bd (.str p.name) (some (.ref ba)) := by
      have := DGet.k (k := Sum.inr p.name) hbd
      rw [hv] at this
      exact this
    have ll : (p.params.map V.str).length = (es.map V.str).length := by rw [List.length_map, List.length_map, hle]
    refine ⟨_, (pss_cons (ps_asg (pe_dget hu (pv 4) (pe_ix ix_tup (pv 0) pe_int (fun _ _ => rfl)) (fun _ _ => rfl)) (pg_tup (by rfl) (pgs_cons (pg_name (i := 5) sc_call_tasks.nd rfl (.inl rfl)) (pgs_cons (pg_name (i := 6) sc_call_tasks.nd rfl (.inl rfl)) pgs_nil))))
      (pss_cons (ps_setDc (i := 7) (own := [("parameter", 8), ("end", 9)]) (g := gTup K 2 (gCons (gName 8) (gCons (gName 9) gNil))) (by rfl) sc_call_tasks.nd rfl rfl (swD_true rfl rfl rfl (by decide +kernel)) (RZ.pi_zipA (by rfl) T.zip (pa_cons (pv 5) (pa_cons (pe_ix ix_tup (pv 0) pe_int (fun _ _ => rfl)) pa_nil))) (blkOk_by (N := ["statement", "names", "owner", "branch", "blocks", "parameters", "block", "inner", "parameter", "end"]) (sc := defScope s_call_tasks) (by decide +kernel)) (fun _ _ _ _ _ => pg_tup (by rfl) (pgs_cons (pg_name (i := 8) sc_call_tasks.nd rfl (by first | exact Or.inl rfl | exact Or.inr rfl)) (pgs_cons (pg_name (i := 9) sc_call_tasks.nd rfl (by first | exact Or.inl rfl | exact Or.inr rfl)) pgs_nil))) (fun _ _ _ _ _ => pts_nil) (fun _ _ _ _ _ => (pv 8)) (fun _ _ _ _ _ => (pe_dget hu (pv 1) (pv 9) (fun _ _ => rfl))))
      (pss_one (ps_ret (pe_call c_tasks.G (hr.mono (by decide)) (by rfl) c_tasks.m c_tasks.k c_tasks.b .nil pass0 (pa_cons (pv 6) (pa_cons (pv 7) (pa_cons (pv 2) (pa_cons (pv 3) pa_nil))))))))), ?_⟩
    refine ⟨_, rfl, _, rfl, a, _, _, _, rfl, rfl, SqT.of ha, atI_nat (j := 1) rfl, bd, _, rfl, dg, ba, _, rfl, SqT.of hba, rfl, _, _, rfl, _, _, rfl, rfl, ?_⟩
    refine ⟨_, rfl, _, rfl, a, _, _, _, rfl, rfl, SqT.of ha, atI_nat (j := 2) rfl, pa, eb, _, _, rfl, .inr ⟨SqT.of hpa, SqT.of heb, fun D nD => ?_⟩⟩
    refine dc_it (walk_zipT (K := K) (a := pa) (b := eb) ll) (fun i H' => H' D = some (.dK (kf (p.params.take i) fun n => .str (bindN p.params (es.map m) n))) ∧ Same H H') ⟨by rw [List.take_zero]; exact upd_same, same_upd nD⟩ (fun i H' _ q => ⟨SqT.of (q.2 _ _ hpa), SqT.of (q.2 _ _ heb)⟩) ?_ ?_
    · rintro i x H2 H3 hi ⟨hD, s2⟩ ⟨Ta, x1, x2, rfl, nT, rfl, e1, e2⟩
      rw [List.length_map] at hi
      have hi2 : i < es.length := by omega
      have e1 : (p.params.map V.str)[i]? = some x1 := e1
      have e2 : (es.map V.str)[i]? = some x2 := e2
      rw [List.getElem?_map, List.getElem?_eq_getElem hi] at e1
      rw [List.getElem?_map, List.getElem?_eq_getElem hi2] at e2
      cases e1
      cases e2
      have s3 := same_upd (o := .tup [V.str p.params[i], V.str es[i]]) nT
      have hn3 : NmAt (upd H2 Ta (.tup [V.str p.params[i], V.str es[i]])) nd dom m := (s2.trans s3) _ _ hn
      have bi := bind_at ndp (List.getElem?_eq_getElem hi) (es := es.map m) (e := m es[i]) (by rw [List.getElem?_map, List.getElem?_eq_getElem hi2]; rfl)
      have nin : p.params[i] ∉ p.params.take i := fun h => by
        have nd2 := ndp
        rw [← List.take_append_drop (i + 1) p.params, List.take_add_one, List.getElem?_eq_getElem hi] at nd2
        exact (List.nodup_append.mp (List.nodup_append.mp nd2).1).2.2 _ h _ (by simp) rfl
      refine ⟨Ta, _, rfl, SqT.of upd_same, rfl, _, _, rfl, _, _, rfl, rfl, rfl, iteT (B := True) ?_⟩
      refine ⟨_, rfl, _, rfl, _, rfl, nd, _, rfl, nm_get hn3 (hes _ (List.getElem_mem hi2)), _, Sum.inr _, rfl, s3 _ _ hD, sz6' (by rw [kf_len, List.length_take]; omega), ?_, same_off nD (s2.trans s3)⟩
      rw [upd_same, List.take_add_one, List.getElem?_eq_getElem hi, ← bi]
      exact congrArg (fun z => some (HO.dK z)) (kf_newF (f := fun n => V.str (bindN p.params (es.map m) n)) nin)
    · rintro H2 ⟨hD, s2⟩
      rw [List.length_map, List.take_length] at hD
      exact ⟨_, rfl, _, rfl, _, rfl, _, rfl, bv, D, p.body, p.params, bindN p.params (es.map m), o, br, rfl, At.keep s2 hbv, hD, hlb, fun q us H3 s3 nq hq hL => k q us H3 (s2.trans s3) (s2.free nq) hq hL⟩
end
end OS

namespace OS
open PySem PySem.Spec PyProof.Rows L2
structure Good (t : Tree) : Prop where
  nde : t.ends.Nodup
  few : t.ends.length ≤ 6
  ndn : (namesP t.parts).Nodup
  ndp : ∀ p ∈ t.parts, p.params.Nodup
  hb : ∀ p ∈ t.parts, blkRule (cntP t.parts) p.params p.body = none
  hbb : blkRule (cntP t.parts) t.ends t.body = none
  nc : ¬ Kn.Circ (namesP t.parts) (callersP t.parts)
  deep : (measB (szOf t.parts) t.body).2 ≤ 3
  many : (measB (szOf t.parts) t.body).1 ≤ 150
theorem or_none {α : Type} {a b : Option α} (h : a.or b = none) : a = none ∧ b = none := by
  cases a with
  | none => exact ⟨rfl, h⟩
  | some x => cases h
theorem good_of {t : Tree} (h : treeRule t = none) : Good t := by
  unfold treeRule stmsRule at h
  obtain ⟨h1, h2⟩ := or_none h
  obtain ⟨h1, h3⟩ := or_none h1
  obtain ⟨h3, h4⟩ := or_none h3
  unfold nameRule at h1
  by_cases c1 : 6 < t.ends.length ∨ ¬ t.ends.Nodup
  · rw [if_pos c1] at h1; cases h1
  rw [if_neg c1] at h1
  by_cases c2 : ¬ (t.parts.map (·.name)).Nodup
  · rw [if_pos c2] at h1; cases h1
  rw [if_neg c2] at h1
  by_cases c3 : ∃ p ∈ t.parts, ¬ p.params.Nodup
  · rw [if_pos c3] at h1; cases h1
  by_cases c4 : Kn.Circ (namesP t.parts) (callersP t.parts)
  · rw [if_pos c4] at h2; cases h2
  rw [if_neg c4] at h2
  by_cases c5 : 3 < (measB (szOf t.parts) t.body).2
  · rw [if_pos c5] at h2; cases h2
  rw [if_neg c5] at h2
  by_cases c6 : 150 < (measB (szOf t.parts) t.body).1
  · rw [if_pos c6] at h2; cases h2
  exact ⟨Classical.byContradiction fun n => c1 (.inr n), Nat.le_of_not_lt fun n => c1 (.inl n), Classical.byContradiction fun n => c2 n, fun p hp => Classical.byContradiction fun n => c3 ⟨p, hp, n⟩, fun p hp => (List.findSome?_eq_none_iff.mp h3) p hp, h4, c4, by omega, by omega⟩
theorem Good.hin {t : Tree} (g : Good t) : ∀ p ∈ t.parts, ∀ q ∈ callsB p.body, q ∈ namesP t.parts := fun p hp => calls_in (g.hb p hp)
theorem Good.hinb {t : Tree} (g : Good t) : ∀ q ∈ callsB t.body, q ∈ namesP t.parts := calls_in g.hbb
theorem siz_szOf {parts : List Prt} {n : Str} (h : ∃ x, Siz parts n x) : Siz parts n (szOf parts n) := by
  unfold szOf
  rw [dif_pos h]
  exact Classical.choose_spec h
theorem all_siz {parts : List Prt} (nd : (namesP parts).Nodup) (nc : ¬ Kn.Circ (namesP parts) (callersP parts)) (hin : ∀ p ∈ parts, ∀ q ∈ callsB p.body, q ∈ namesP parts) : AllSiz parts := by
  have : ∀ (k : Nat) (p : Prt), p ∈ parts → rkP parts p.name < k → ∃ x, Siz parts p.name x := by
    intro k
    induction k with
    | zero => intro p _ h; omega
    | succ k ih =>
      intro p hp hk
      refine ⟨_, .mk hp (f := szOf parts) fun q hq => ?_⟩
      have := rk_lt nd nc hp hq
      obtain ⟨p2, hp2, rfl⟩ := List.mem_map.mp (hin p hp q hq)
      exact siz_szOf (ih p2 hp2 (by omega))
  exact fun p hp => siz_szOf (this _ p hp (Nat.lt_succ_self _))
theorem Good.al {t : Tree} (g : Good t) : AllSiz t.parts := all_siz g.ndn g.nc g.hin
theorem nB_zero : ∀ {b : List Stm}, nB b = 0 → b = []
  | [], _ => rfl
  | s :: r, h => by
    have := nS_pos s
    simp only [nB] at h
    omega
/-- the statement as it stands among its rules -/
structure JobOk (cs : List (Str × Int)) (t : Job) : Prop where
  ok : ∀ p ∈ preS 0 t.st, stmRule cs t.dom p.1 = none
  n : nS t.st ≤ 4000
theorem preS_lv {Pr : Stm → Prop} (s : Stm) (l k : Nat) : (∀ p ∈ preS l s, Pr p.1) → ∀ p ∈ preS k s, Pr p.1 := by
  have key : ∀ (l k : Nat), ((preS l s).map (·.1)) = (preS k s).map (·.1) := by
    have hS : ∀ s : Stm, ∀ (l k : Nat), ((preS l s).map (·.1)) = (preS k s).map (·.1) := by
      intro s
      refine Stm.rec (motive_1 := fun s => ∀ (l k : Nat), ((preS l s).map (·.1)) = (preS k s).map (·.1)) (motive_2 := fun b => ∀ (l k : Nat), ((preB l b).map (·.1)) = (preB k b).map (·.1)) ?_ ?_ ?_ ?_ ?_ ?_ ?_ ?_ s
      · intros; simp [preS]
      · intros; simp [preS]
      · intros; simp [preS]
      · intros; simp [preS]
      · intro e v y n h1 h2 l k
        simp only [preS, List.map_cons, List.map_append, h1 l k, h2 l k]
      · intro e v b h1 l k
        simp only [preS, List.map_cons, h1 (l + 1) (k + 1)]
      · intros; simp [preB]
      · intro s r h1 h2 l k
        simp only [preB, List.map_append, h1 l k, h2 l k]
    exact hS s
  intro h p hp
  have hm : p.1 ∈ (preS l s).map (·.1) := by
    rw [key l k]
    exact List.mem_map.mpr ⟨p, hp, rfl⟩
  obtain ⟨q, hq, e⟩ := List.mem_map.mp hm
  rw [← e]
  exact h q hq
theorem jobs_blk {cs : List (Str × Int)} {dom : List Str} {b : List Stm} (h : blkRule cs dom b = none) (hn : nB b ≤ 4000) (m : Str → Str) (o : Int) (br : Nat) : ∀ t ∈ blkT b dom m o br, JobOk cs t := fun t ht => by
  obtain ⟨s, hs, rfl⟩ := List.mem_map.mp ht
  unfold blkRule at h
  rw [List.findSome?_eq_none_iff, preB_flat] at h
  have hle : ∀ (b : List Stm), s ∈ b → nS s ≤ nB b := by
    intro b
    induction b with
    | nil => intro h; cases h
    | cons x r ih =>
      intro h
      simp only [nB]
      rcases List.mem_cons.mp h with rfl | h
      · omega
      · have := ih h
        omega
  exact ⟨fun p hp => h p (List.mem_flatMap.mpr ⟨s, hs, hp⟩), Nat.le_trans (hle b hs) hn⟩
theorem jobs_in {cs : List (Str × Int)} {t : Job} (h : JobOk cs t) (o : Int) : ∀ (k : Nat) (b : List Stm), b ∈ innerB t.st → ∀ j ∈ blkT b t.dom t.m o k, JobOk cs j := fun k b hb j hj => by
  obtain ⟨s, hs, rfl⟩ := List.mem_map.mp hj
  have hfl : s ∈ (innerB t.st).flatten := List.mem_flatten.mpr ⟨b, hb, hs⟩
  have hn := nS_inner t.st 0
  rw [nW_blk] at hn
  have hle : ∀ (b : List Stm), s ∈ b → nS s ≤ nB b := by
    intro b
    induction b with
    | nil => intro h; cases h
    | cons x r ih =>
      intro h
      simp only [nB]
      rcases List.mem_cons.mp h with rfl | h
      · omega
      · have := ih h
        omega
  have h1 := h.n
  have h2 := hle _ hfl
  refine ⟨preS_lv (Pr := fun x => stmRule cs t.dom x = none) s (stepL t.st 0) 0 fun p hp => h.ok p ?_, by show nS s ≤ 4000; omega⟩
  rw [preS_inner, preW_blk, preB_flat]
  exact List.mem_cons_of_mem _ (List.mem_flatMap.mpr ⟨s, hfl, hp⟩)
def pushI (dom : List Str) (m : Str → Str) (o : Int) : Nat → List (List Stm) → List Job
  | _, [] => []
  | k, b :: r => blkT b dom m o k ++ pushI dom m o (k + 1) r
theorem pushI_st (dom : List Str) (m : Str → Str) (o : Int) : ∀ (k : Nat) (B : List (List Stm)), (pushI dom m o k B).map (·.st) = B.flatten
  | _, [] => rfl
  | k, b :: r => by
    rw [pushI, List.map_append, pushI_st dom m o (k + 1) r, List.flatten_cons]
    congr 1
    unfold blkT
    rw [List.map_map]
    exact List.map_id' b
theorem pushI_ok {cs : List (Str × Int)} {t : Job} (h : JobOk cs t) (o : Int) : ∀ (k : Nat) (B : List (List Stm)), (∀ b ∈ B, b ∈ innerB t.st) → ∀ j ∈ pushI t.dom t.m o k B, JobOk cs j
  | _, [], _, j, hj => by cases hj
  | k, b :: r, hB, j, hj => by
    rw [pushI] at hj
    rcases List.mem_append.mp hj with hj | hj
    · exact jobs_in h o k b (hB b (List.mem_cons_self ..)) j hj
    · exact pushI_ok h o (k + 1) r (fun b hb => hB b (List.mem_cons_of_mem _ hb)) j hj
/-- the row of a statement that is no call, and what is behind it -/
theorem numW_one (cf : CallF) (t : Job) (hc : isCall t.st = false) (pos : Nat) (R : List Job) : (numW cf pos (t :: R)).map rowD = .tup [flS (renH t.m t.st), .int t.ow, .int (t.br : Nat)] :: (numW cf (pos + 1) (pushI t.dom t.m (pos : Nat) 0 (innerB t.st) ++ R)).map rowD := by
  obtain ⟨st, dom, m, ow, br⟩ := t
  cases st with
  | call q es => cases hc
  | ite e v y n =>
    simp only [innerB, pushI, List.append_nil, List.append_assoc]
    rw [numW_blk, numW_blk]
    simp only [numW, exS, numB, numS, nB, nS, List.append_nil, List.map_cons, List.map_append, List.cons_append, List.append_assoc, rowD, renH, flS, Nat.add_zero]
    rw [show pos + (1 + nB (exB cf m y) + nB (exB cf m n)) = pos + 1 + nB (exB cf m y) + nB (exB cf m n) by omega]
  | whl e v b =>
    simp only [innerB, pushI, List.append_nil, List.append_assoc]
    rw [numW_blk]
    simp only [numW, exS, numB, numS, nB, nS, List.append_nil, List.map_cons, List.map_append, List.cons_append, List.append_assoc, rowD, renH, flS, Nat.add_zero]
    rw [show pos + (1 + nB (exB cf m b)) = pos + 1 + nB (exB cf m b) by omega]
  | _ => simp only [innerB, pushI, List.nil_append, numW, exS, numB, numS, nB, nS, List.append_nil, List.map_cons, List.map_append, List.cons_append, rowD, renH, flS, Nat.add_zero]
end OS

namespace OS
open PySem PySem.Spec PyProof.Rows L2
structure FlatTxt (mg : Str → Option Value) : Prop where
  wh : ∃ t, mg "WHOLE" = some (.int (-1) t)
def nzP (f : Str → Nat × Nat) (L : List Prt) : List Str := (L.filter fun p => zOf f p.name).map (·.name)
/-- the rows of a whole score -/
noncomputable def rowsT (t : Tree) : List Row := numB 0 (-1) 0 (exB (cfix t.parts) (fun n => n) t.body)
structure Small (t : Tree) : Prop where
  n : ∀ p ∈ t.parts, nB p.body ≤ 4000
  nb : nB t.body ≤ 4000
theorem rowsD_kable (l : List Dt) (h : ∀ d ∈ l, kable d) : kableL l := kableL_of h
structure RSt (K : PySem.W.Frag) (H0 H : Hp) (t : Tree) (bd rl wl : Addr) (ba : Str → Addr) (Ds : List Dt) (W : List Job) (rs ws : List V) (m : Nat) : Prop where
  s : Same H0 H
  d : H bd = some (.dK (kf (nzP (szOf t.parts) t.parts) fun n => .ref (ba n)))
  b : ∀ p ∈ t.parts, zOf (szOf t.parts) p.name = true → BkAt K H p (ba p.name)
  r : H rl = some (.lst rs)
  rd : AtL K H Ds rs
  rk : kableL Ds
  w : H wl = some (.lst ws.reverse)
  wj : LR (JobAt K H) W ws
  eq : Ds ++ (numW (cfix t.parts) Ds.length W).map rowD = (rowsT t).map rowD
  c : Cst (zOf (szOf t.parts)) t.parts (W.map (·.st)) m
  le : m ≤ 15004000
  ok : ∀ j ∈ W, JobOk (cntP t.parts) j
theorem nz_mem {f : Str → Nat × Nat} {L : List Prt} {p : Prt} (hp : p ∈ L) (hz : zOf f p.name = true) : p.name ∈ nzP f L := List.mem_map.mpr ⟨p, List.mem_filter.mpr ⟨hp, hz⟩, rfl⟩
theorem nz_out {f : Str → Nat × Nat} {L : List Prt} {q : Str} (hz : zOf f q = false) : q ∉ nzP f L := fun h => by
  obtain ⟨p, h1, rfl⟩ := List.mem_map.mp h
  have := (List.mem_filter.mp h1).2
  rw [hz] at this
  cases this
theorem iteNF {x y : V} [Decidable (x = y)] (h : x = y) {A B : Prop} (b : B) : if (!decide (x = y)) = true then A else B := by
  rw [decide_eq_true h]
  exact b
theorem iteNT {x y : V} [Decidable (x = y)] (h : ¬ x = y) {A B : Prop} (a : A) : if (!decide (x = y)) = true then A else B := by
  rw [decide_eq_false h]
  exact a
theorem drop_flat {α : Type} (B : List (List α)) (k : Nat) : (B.drop k).flatten.length ≤ B.flatten.length := by
  have := congrArg (fun l => (List.flatten l).length) (List.take_append_drop k B)
  simp only [List.flatten_append, List.length_append] at this
  omega
theorem cst_inv {z : Str → Bool} {parts : List Prt} {s : Stm} {r : List Stm} {m : Nat} (h : Cst z parts (s :: r) m) : (∃ p es c d, s = .call p.name es ∧ p ∈ parts ∧ z p.name = true ∧ Cst z parts p.body c ∧ Cst z parts r d ∧ m = 1 + c + d) ∨
    (∃ q es d, s = .call q es ∧ z q = false ∧ Cst z parts r d ∧ m = 1 + d) ∨ (∃ c d, isCall s = false ∧ Cst z parts (innerB s).flatten c ∧ Cst z parts r d ∧ m = 1 + c + d) := by
  cases h with
  | call1 hp hz hb hr => exact .inl ⟨_, _, _, _, rfl, hp, hz, hb, hr, rfl⟩
  | call0 hz hr => exact .inr (.inl ⟨_, _, _, rfl, hz, hr, rfl⟩)
  | one hc hi hr => exact .inr (.inr ⟨_, _, hc, hi, hr, rfl⟩)
theorem cnt_some : ∀ {parts : List Prt}, (namesP parts).Nodup → ∀ {p : Prt}, p ∈ parts → cntV (cntP parts) p.name = some ((p.params.length : Nat) : Int)
  | [], _, p, h => by cases h
  | a :: r, nd, p, h => by
    have nd2 : a.name ∉ namesP r ∧ (namesP r).Nodup := List.nodup_cons.mp nd
    unfold cntV cntP
    rw [List.map_cons, List.find?_cons]
    by_cases e : a.name = p.name
    · simp only [decide_eq_true e]
      have : p = a := by
        rcases List.mem_cons.mp h with h | h
        · exact h
        · exact absurd (e ▸ List.mem_map.mpr ⟨p, h, rfl⟩ : a.name ∈ namesP r) nd2.1
      rw [this]
      rfl
    · simp only [decide_eq_false e]
      have hr : p ∈ r := (List.mem_cons.mp h).resolve_left fun z => e (by rw [z])
      exact cnt_some nd2.2 hr
theorem call_ok {parts : List Prt} (nd : (namesP parts).Nodup) {ends : List Str} {q : Str} {es : List Str} (h : stmRule (cntP parts) ends (.call q es) = none) : ∃ p ∈ parts, p.name = q ∧ es.length = p.params.length ∧ ∀ e ∈ es, e ∈ ends := by
  unfold stmRule at h
  by_cases c1 : badCall (cntP parts) (.call q es) = true
  · rw [if_pos c1] at h; cases h
  rw [if_neg c1] at h
  by_cases c2 : ∃ e ∈ endsS (.call q es), e ∉ ends
  · rw [if_pos c2] at h; cases h
  have hr : rightC (cntP parts) q es = true := by
    cases z : rightC (cntP parts) q es with
    | true => rfl
    | false => simp only [badCall, z] at c1; exact absurd rfl c1
  obtain ⟨p, hp, rfl⟩ := List.mem_map.mp (right_in hr)
  unfold rightC at hr
  rw [cnt_some nd hp] at hr
  have h2 : decide ((es.length : Int) = ((p.params.length : Nat) : Int)) = true := by
    have : (decide ((es.length : Int) = ((p.params.length : Nat) : Int)) && decide es.Nodup) = true := hr
    exact (Bool.and_eq_true _ _ ▸ this).1
  have h3 := of_decide_eq_true h2
  exact ⟨p, hp, rfl, by omega, fun e he => Classical.byContradiction fun n => c2 ⟨e, he, n⟩⟩
theorem one_ok {cs : List (Str × Int)} {dom : List Str} {s : Stm} (h : stmRule cs dom s = none) (hc : isCall s = false) : inDom dom s := fun e he => Classical.byContradiction fun n => by
  unfold stmRule at h
  by_cases c1 : badCall cs s = true
  · rw [if_pos c1] at h; cases h
  rw [if_neg c1, if_pos ⟨e, he, n⟩] at h
  cases h
theorem flS_kable (s : Stm) : kable (flS s) := by
  cases s with
  | call q es =>
    have := names_kable es
    simp only [flS, namesDt, kable, kableL, true_and, and_true]
    exact this
  | _ => simp [flS, kable, kableL, val_kable]
section
variable {P : Program} {w : World} {K : PySem.W.Frag} {mg : Str → Option Value} {base : Heap}
def spRows (K : PySem.W.Frag) : Sp := fun vs H Q _ => ∃ (v : V) (t : Tree), vs = [v] ∧ At K H t.dt v ∧ TreeOk t ∧ Good t ∧ Small t ∧ ∀ p us H', Same H H' → H p = none → H' p = some (.lst us) → AtL K H' ((rowsT t).map rowD) us → Q (.ref p) H'
theorem ok_played_rows {f : Addr} {fd : FuncData} (F : Fun K "played_rows" "played_rows" s_played_rows f fd) (T : Txt K mg) (TF : FlatTxt mg) {f_part_sizes : Addr} {d_part_sizes : FuncData} (c_part_sizes : Cal P w K mg base 4 "part_sizes" ["parts"] (spSizes K) f_part_sizes d_part_sizes) {f_tasks : Addr} {d_tasks : FuncData} (c_tasks : Cal P w K mg base 1 "tasks" ["block", "names", "owner", "branch"] (spTasks K) f_tasks d_tasks) {f_call_tasks : Addr} {d_call_tasks : FuncData} (c_call_tasks : Cal P w K mg base 2 "call_tasks" ["statement", "names", "owner", "branch", "blocks"] (spCallT K) f_call_tasks d_call_tasks) {f_renamed : Addr} {d_renamed : FuncData} (c_renamed : Cal P w K mg base 1 "renamed" ["statement", "names"] (spRen K) f_renamed d_renamed) {f_inner_blocks : Addr} {d_inner_blocks : FuncData} (c_inner_blocks : Cal P w K mg base 1 "inner_blocks" ["statement"] (spInn K) f_inner_blocks d_inner_blocks) : FnOk P w K mg base CX0 5 f fd ["tree"] (spRows K) := by
  refine F.ok sc_played_rows (fun vs H Q E h => ?_) (fun cdv A outer s H vs Q E hr h => ?_)
  · obtain ⟨v, t, rfl, _⟩ := h
    rfl
  · obtain ⟨v, t, rfl, hat, ok, gd, sm, k⟩ := h
    obtain ⟨tw, m_WHOLE⟩ := TF.wh
    have hu := hu_of hr
    unfold Tree.dt At at hat
    obtain ⟨tp, vs, rfl, htp, hl⟩ := hat
    simp only [AtL] at hl
    obtain ⟨v0, _, rfl, h0, v1, _, rfl, h1, v2, _, rfl, hb, rfl⟩ := hl
    obtain ⟨ep, rfl, hep⟩ := names_of h0
    unfold At at h1
    obtain ⟨pp, us, rfl, hpp, hA⟩ := h1
    have lus := hA.length
    rw [List.length_map] at lus
    have lpa := ok.parts
    have getP : ∀ (i : Nat) (hi : i < t.parts.length) H', Same H H' → ∃ a q bv, us[i]? = some (.ref a) ∧ H' a = some (.tup [.str t.parts[i].name, .ref q, bv]) ∧ H' q = some (.tup (t.parts[i].params.map V.str)) ∧ At K H' (blkDt t.parts[i].body) bv := fun i hi H' s => by
      obtain ⟨v, e1, e2⟩ := hA.get (i := i) (d := t.parts[i].dt) (by rw [List.getElem?_map, List.getElem?_eq_getElem hi]; rfl)
      obtain ⟨a, q, bv, rfl, ha, hq, hb⟩ := part_at e2
      exact ⟨a, q, bv, e1, s _ _ ha, s _ _ hq, At.keep s hb⟩
    have ntk : ∀ (i : Nat) (hi : i < t.parts.length), t.parts[i].name ∉ namesP (t.parts.take i) := fun i hi h => by
      have nd2 := gd.ndn
      rw [namesP, ← List.take_append_drop (i + 1) t.parts, List.take_add_one, List.getElem?_eq_getElem hi, List.map_append, List.map_append] at nd2
      exact (List.nodup_append.mp (List.nodup_append.mp nd2).1).2.2 _ h _ (by simp) rfl
    refine ⟨_, (pss_cons (ps_asg (pv 0) (pg_tup (by rfl) (pgs_cons (pg_name (i := 1) sc_played_rows.nd rfl (.inl rfl)) (pgs_cons (pg_name (i := 2) sc_played_rows.nd rfl (.inl rfl)) (pgs_cons (pg_name (i := 3) sc_played_rows.nd rfl (.inl rfl)) pgs_nil)))))
      (pss_cons (ps_set (i := 4) sc_played_rows.nd rfl (.inr rfl) (pe_call c_part_sizes.G (hr.mono (by decide)) (by rfl) c_part_sizes.m c_part_sizes.k c_part_sizes.b .nil pass0 (pa_cons (pv 2) pa_nil)))
      (pss_cons (ps_setDc (i := 5) (own := [("part", 14)]) (g := gName 14) (by rfl) sc_played_rows.nd rfl rfl (swD_true rfl rfl rfl (by decide +kernel)) (pi_tup (pv 2)) (blkOk_by (N := ["tree", "ends", "parts", "block", "sizes", "blocks", "rows", "waiting", "statement", "names", "owner", "branch", "inner", "at", "part", "end"]) (sc := defScope s_played_rows) (by decide +kernel)) (fun _ _ _ _ _ => pg_name (i := 14) sc_played_rows.nd rfl (by first | exact Or.inl rfl | exact Or.inr rfl)) (fun _ _ _ _ _ => (pts_one (pt_cmpR op_gt (pe_ix (show IxR _ (rIxT K) from ix_tup) (pe_dget hu (pv 4) (pe_ix (show IxR _ (rIxT K) from ix_tup) (pv 14) pe_int (fun _ _ => rfl)) (fun _ _ => rfl)) pe_int (fun _ _ => rfl)) pe_int (nomark _)))) (fun _ _ _ _ _ => (pe_ix (show IxR _ (rIxT K) from ix_tup) (pv 14) pe_int (fun _ _ => rfl))) (fun _ _ _ _ _ => (pe_tup (pa_cons (pe_ix (show IxR _ (rIxT K) from ix_tup) (pv 14) pe_int (fun _ _ => rfl)) (pa_cons (pe_ix (show IxR _ (rIxT K) from ix_tup) (pv 14) pe_int (fun _ _ => rfl)) pa_nil)))))
      (pss_cons (ps_set (i := 6) sc_played_rows.nd rfl (.inl rfl) (pe_lst pa_nil))
      (pss_cons (ps_set (i := 7) sc_played_rows.nd rfl (.inl rfl) (pe_call c_tasks.G (hr.mono (by decide)) (by rfl) c_tasks.m c_tasks.k c_tasks.b .nil pass0 (pa_cons (pv 3) (pa_cons (pe_dc (own := [("end", 15)]) (g := gName 15) (by rfl) sc_played_rows.nd (pi_tup (pv 1)) (blkOk_by (N := ["tree", "ends", "parts", "block", "sizes", "blocks", "rows", "waiting", "statement", "names", "owner", "branch", "inner", "at", "part", "end"]) (sc := defScope s_played_rows) (by decide +kernel)) (fun _ _ _ _ _ => pg_name (i := 15) sc_played_rows.nd rfl (by first | exact Or.inl rfl | exact Or.inr rfl)) (fun _ _ _ _ _ => pts_nil) (fun _ _ _ _ _ => (pv 15)) (fun _ _ _ _ _ => (pv 15))) (pa_cons (pe_glob rfl m_WHOLE relI) (pa_cons pe_int pa_nil))))))
      (pss_cons (ps_while PassesOwn.never (pt_truth (pv 7) (by intro _; rfl)) (pss_cons (ps_asg (pe_bm0 PySem.F.plainAttrs_list PySem.F.slot_list_pop PySem.F.type_list_pop mt_pop (pv 7)) (pg_tup (by rfl) (pgs_cons (pg_name (i := 8) sc_played_rows.nd rfl (.inl rfl)) (pgs_cons (pg_name (i := 9) sc_played_rows.nd rfl (.inl rfl)) (pgs_cons (pg_name (i := 10) sc_played_rows.nd rfl (.inl rfl)) (pgs_cons (pg_name (i := 11) sc_played_rows.nd rfl (.inl rfl)) pgs_nil))))))
      (pss_one (ps_if (pt_cmpR op_ne (pe_ix ix_tup (pv 8) pe_int (fun _ _ => rfl)) pe_str (nomark _)) (pss_cons (ps_set (i := 12) sc_played_rows.nd rfl (.inl rfl) (pe_call c_inner_blocks.G (hr.mono (by decide)) (by rfl) c_inner_blocks.m c_inner_blocks.k c_inner_blocks.b .nil pass0 (pa_cons (pv 8) pa_nil)))
      (pss_cons (ps_for PassesOwn.never rfl (pi_revR (by rfl) T.reversed (prg_1 (by rfl) T.range (pe_callB call_len_seq (by rfl) T.len PySem.boot_len (pa_cons (pv 12) pa_nil)))) (pg_name (i := 13) sc_played_rows.nd rfl (.inl rfl)) (pss_one (ps_expr (pe_bm PySem.F.plainAttrs_list PySem.F.slot_list_extend PySem.F.type_list_extend mt_extend (pv 7) (pa_cons (pe_call c_tasks.G (hr.mono (by decide)) (by rfl) c_tasks.m c_tasks.k c_tasks.b .nil pass0 (pa_cons (pe_ix ix_list (pv 12) (pv 13) (fun _ _ => rfl)) (pa_cons (pv 9) (pa_cons (pe_callB call_len_seq (by rfl) T.len PySem.boot_len (pa_cons (pv 6) pa_nil)) (pa_cons (pv 13) pa_nil))))) pa_nil)))))
      (pss_one (ps_expr (pe_bm PySem.F.plainAttrs_list PySem.F.slot_list_append PySem.F.type_list_append mt_append (pv 6) (pa_cons (pe_tup (pa_cons (pe_call c_renamed.G (hr.mono (by decide)) (by rfl) c_renamed.m c_renamed.k c_renamed.b .nil pass0 (pa_cons (pv 8) (pa_cons (pv 9) pa_nil))) (pa_cons (pv 10) (pa_cons (pv 11) pa_nil)))) pa_nil)))))) (pss_one (ps_if (pt_cmp (pc_din hu (pe_ix ix_tup (pv 8) pe_int (fun _ _ => rfl)) (pv 5))) (pss_one (ps_expr (pe_bm PySem.F.plainAttrs_list PySem.F.slot_list_extend PySem.F.type_list_extend mt_extend (pv 7) (pa_cons (pe_call c_call_tasks.G (hr.mono (by decide)) (by rfl) c_call_tasks.m c_call_tasks.k c_call_tasks.b .nil pass0 (pa_cons (pv 8) (pa_cons (pv 9) (pa_cons (pv 10) (pa_cons (pv 11) (pa_cons (pv 5) pa_nil)))))) pa_nil)))) pss_nil))))))
      (pss_one (ps_ret (pv 6))))))))), ?_⟩
    refine ⟨_, rfl, tp, _, rfl, SqT.of htp, rfl, _, _, rfl, _, _, rfl, _, _, rfl, rfl, ?_⟩
    refine ⟨_, rfl, pp, us, t.parts, rfl, hpp, hA, gd.ndn, ok.n, gd.hin, Nat.le_trans ok.parts (by decide), fun _ c kvs fz H1 s1 hc hsz => ?_, fun hc => absurd hc gd.nc⟩
    have ef : ∀ p ∈ t.parts, fz p.name = szOf t.parts p.name := fun p hp => (szOf_eq gd.ndn (hsz p.name (List.mem_map.mpr ⟨p, hp, rfl⟩)).1).symm
    refine ⟨_, rfl, pp, rfl, ⟨_, SqT.of (s1 _ _ hpp)⟩, fun bd nbd => ?_⟩
    refine dc_it (walk_tup (K := K) (a := pp) (xs := us)) (fun i H' => ∃ ba : Str → Addr, H' bd = some (.dK (kf (nzP (szOf t.parts) (t.parts.take i)) fun n => .ref (ba n))) ∧ Same H1 H' ∧ ∀ p ∈ t.parts.take i, zOf (szOf t.parts) p.name = true → BkAt K H' p (ba p.name)) ⟨fun _ => 0, by rw [List.take_zero]; exact upd_same, same_upd nbd, fun p hp => by rw [List.take_zero] at hp; cases hp⟩ (fun i H' _ q => by obtain ⟨_, _, s, _⟩ := q; exact SqT.of ((s1.trans s) _ _ hpp)) ?_ ?_
    · rintro i x H2 H2 hi ⟨ba, hD, s2, hba⟩ ⟨rfl, hx⟩
      have hip : i < t.parts.length := by omega
      obtain ⟨a, q, bv, hu2, ha, hq, hbv⟩ := getP i hip H2 (s1.trans s2)
      rw [hx] at hu2
      cases hu2
      have hmi := List.getElem_mem hip
      obtain ⟨_, sa, e1, hsa⟩ := hsz t.parts[i].name (List.mem_map.mpr ⟨_, hmi, rfl⟩)
      have dg : DGet H2 c (.str t.parts[i].name) (some (.ref sa)) := by
        have := DGet.k (k := Sum.inr t.parts[i].name) (s2 _ _ hc)
        rw [e1] at this
        exact this
      refine ⟨rfl, _, rfl, _, rfl, a, _, _, _, rfl, rfl, SqT.of ha, atI_nat (j := 0) rfl, c, _, rfl, dg, sa, _, _, _, rfl, rfl, SqT.of (s2 _ _ hsa), atI_nat (j := 0) rfl, _, _, rfl, rfl, _, rfl, ?_⟩
      have ez : zOf (szOf t.parts) t.parts[i].name = decide (0 < (fz t.parts[i].name).1) := by unfold zOf; rw [ef _ hmi]
      have etk : t.parts.take (i + 1) = t.parts.take i ++ [t.parts[i]] := by rw [List.take_add_one, List.getElem?_eq_getElem hip]; rfl
      have ninz : t.parts[i].name ∉ nzP (szOf t.parts) (t.parts.take i) := fun h => by
        obtain ⟨p2, h1, h2⟩ := List.mem_map.mp h
        exact ntk i hip (List.mem_map.mpr ⟨p2, (List.mem_filter.mp h1).1, h2⟩)
      rw [etk]
      by_cases cz : 0 < (fz t.parts[i].name).1
      · rw [decide_eq_true cz] at ez
        refine iteDT (by omega) ⟨_, rfl, a, _, _, _, rfl, rfl, SqT.of ha, atI_nat (j := 0) rfl, _, rfl, a, _, _, _, rfl, rfl, SqT.of ha, atI_nat (j := 1) rfl, _, rfl, a, _, _, _, rfl, rfl, SqT.of ha, atI_nat (j := 2) rfl, by show 2 ≤ sizeLine; decide, fun tt ntt => ?_⟩
        have s3 := same_upd (o := .tup [.ref q, bv]) ntt
        have hD3 := s3 _ _ hD
        have lnz : (nzP (szOf t.parts) (t.parts.take i)).length ≤ 60 := by
          unfold nzP
          rw [List.length_map]
          have := List.length_filter_le (fun p => zOf (szOf t.parts) p.name) (t.parts.take i)
          rw [List.length_take] at this
          omega
        refine ⟨_, Sum.inr _, rfl, hD3, sz6' (by rw [kf_len]; omega), fun n => if n = t.parts[i].name then tt else ba n, ?_, same_off nbd (s2.trans s3), fun p hp hzp => ?_⟩
        · rw [upd_same, kf_new ninz]
          unfold nzP
          rw [List.filter_append, List.map_append, show ([t.parts[i]].filter fun p => zOf (szOf t.parts) p.name) = [t.parts[i]] by simp [ez]]
          refine congrArg (fun z => some (HO.dK z)) (kf_congr fun n _ => ?_)
          unfold setF
          show (if n = t.parts[i].name then V.ref tt else V.ref (ba n)) = V.ref (if n = t.parts[i].name then tt else ba n)
          by_cases e : n = t.parts[i].name
          · rw [if_pos e, if_pos e]
          · rw [if_neg e, if_neg e]
        · show BkAt K _ p (if p.name = t.parts[i].name then tt else ba p.name)
          by_cases e : p.name = t.parts[i].name
          · have hpm : p ∈ t.parts := (List.mem_append.mp hp).elim List.mem_of_mem_take fun z => by rw [List.mem_singleton.mp z]; exact hmi
            have := part_eq gd.ndn hpm hmi e
            rw [if_pos e, this]
            exact BkAt.kt (tup_dict hD3) ⟨q, bv, upd_same, s3 _ _ hq, At.keep s3 hbv⟩
          · rw [if_neg e]
            have hpt := (List.mem_append.mp hp).resolve_right fun z => e (by rw [List.mem_singleton.mp z])
            exact BkAt.kt (tup_dict hD3) (BkAt.kt (KpL.of s3).tup (hba p hpt hzp))
      · rw [decide_eq_false cz] at ez
        refine iteDF (by omega) ⟨ba, ?_, s2, fun p hp hzp => hba p ((List.mem_append.mp hp).resolve_right fun z => by rw [List.mem_singleton.mp z, ez] at hzp; cases hzp) hzp⟩
        unfold nzP
        rw [List.filter_append, show ([t.parts[i]].filter fun p => zOf (szOf t.parts) p.name) = [] by simp [ez], List.append_nil]
        exact hD
    rintro H2 ⟨ba, hD, s2, hba⟩
    rw [lus, List.take_length] at hD hba
    have nbd0 : H bd = none := s1.free nbd
    have s02 := s1.trans s2
    refine ⟨Nat.zero_le _, fun rl nrl => ?_⟩
    have s03 := s02.trans (same_upd (o := .lst []) nrl)
    have hrl3 : upd H2 rl (.lst []) rl = some (.lst []) := upd_same
    have hD3 := (same_upd (o := .lst []) nrl) _ _ hD
    have hba3 : ∀ p ∈ t.parts, zOf (szOf t.parts) p.name = true → BkAt K (upd H2 rl (.lst [])) p (ba p.name) := fun p hp hz => BkAt.kt (KpL.new nrl).tup (hba p hp hz)
    have nrl0 : H rl = none := s02.free nrl
    have rlb : rl ≠ bd := fun z => by rw [z, hD] at nrl; cases nrl
    generalize upd H2 rl (.lst []) = H3 at s03 hrl3 hD3 hba3
    refine ⟨_, rfl, _, rfl, ep, rfl, ⟨_, SqT.of (s03 _ _ hep)⟩, fun nd nnd => ?_⟩
    have few := gd.few
    refine dc_it (walk_tup (K := K) (a := ep) (xs := t.ends.map V.str)) (fun i H' => H' nd = some (.dK (kf (t.ends.take i) fun n => .str n)) ∧ Same H3 H') ⟨by rw [List.take_zero]; exact upd_same, same_upd nnd⟩ (fun i H' _ q => SqT.of ((s03.trans q.2) _ _ hep)) ?_ ?_
    · rintro i x H4 H4 hi ⟨hN, s4⟩ ⟨rfl, hx⟩
      rw [List.length_map] at hi
      rw [List.getElem?_map, List.getElem?_eq_getElem hi] at hx
      cases hx
      have nin : t.ends[i] ∉ t.ends.take i := fun h => by
        have nd2 := gd.nde
        rw [← List.take_append_drop (i + 1) t.ends, List.take_add_one, List.getElem?_eq_getElem hi] at nd2
        exact (List.nodup_append.mp (List.nodup_append.mp nd2).1).2.2 _ h _ (by simp) rfl
      refine ⟨rfl, iteT (B := True) ⟨_, rfl, _, rfl, _, Sum.inr _, rfl, hN, sz6' (by rw [kf_len, List.length_take]; omega), ?_, same_off nnd s4⟩⟩
      rw [upd_same, List.take_add_one, List.getElem?_eq_getElem hi]
      exact congrArg (fun z => some (HO.dK z)) (kf_newF (f := fun n => V.str n) nin)
    rintro H4 ⟨hN, s4⟩
    rw [List.length_map, List.take_length] at hN
    have s04 := s03.trans s4
    refine ⟨v2, nd, t.body, t.ends, fun n => n, -1, 0, rfl, At.keep s04 hb, hN, Nat.le_trans (nB_len _) (Nat.le_trans sm.nb (by decide)), fun wl us0 H5 s5 nwl hwl hL => ?_⟩
    have nwl0 : H wl = none := s04.free nwl
    have s05 := s04.trans s5
    have hrl5 := s5 _ _ (s4 _ _ hrl3)
    have hD5 := s5 _ _ (s4 _ _ hD3)
    have hba5 : ∀ p ∈ t.parts, zOf (szOf t.parts) p.name = true → BkAt K H5 p (ba p.name) := fun p hp hz => BkAt.kt (KpL.of (s4.trans s5)).tup (hba3 p hp hz)
    have wlr : wl ≠ rl := fun z => by rw [z, s4 _ _ hrl3] at nwl; cases nwl
    have wlb : wl ≠ bd := fun z => by rw [z, s4 _ _ hD3] at nwl; cases nwl
    obtain ⟨c0, hc0, lc0⟩ := cost_B (f := szOf t.parts) (parts := t.parts) (L := 4000) (k := 12) (fun _ => True) t.body fun q hq hz => by
      rw [← callsB_eq] at hq
      obtain ⟨p2, hp2, rfl⟩ := List.mem_map.mp (gd.hinb q hq)
      obtain ⟨c, h1, h2⟩ := cost_P gd.ndn gd.nc gd.al gd.hin sm.n 12 p2 hp2 (Nat.le_trans (rk_le _ _) lpa) hz
      exact ⟨p2, hp2, rfl, c, h1, h2⟩
    have hc0le : c0 ≤ 15004000 := by
      have h1 := gd.many
      rw [meas_eq] at h1
      have h2 := sm.nb
      have h3 : 4000 * (1 + 2 * 12) * manyB (szOf t.parts) t.body ≤ 4000 * (1 + 2 * 12) * 150 := Nat.mul_le_mul_left _ h1
      omega
    have rlen : (rowsT t).length ≤ 150 := by
      unfold rowsT
      rw [numB_len, ex_many gd.ndn gd.al gd.hin gd.hinb]
      exact gd.many
    have hL5 : LR (JobAt K H5) (blkT t.body t.ends (fun n => n) (-1) 0) us0.reverse := by
      have := hL.rev
      rw [List.reverse_reverse] at this
      exact this
    refine ⟨fun m σ H' => ∃ (Ds : List Dt) (W : List Job) (rs ws : List V) (y8 y9 y10 y11 y12 y13 : Option V), σ = [some (.ref tp), some (.ref ep), some (.ref pp), some v2, some (.ref c), some (.ref bd), some (.ref rl), some (.ref wl), y8, y9, y10, y11, y12, y13, none, none] ∧ RSt K H H' t bd rl wl ba Ds W rs ws m,
      ⟨c0, [], blkT t.body t.ends (fun n => n) (-1) 0, [], us0.reverse, none, none, none, none, none, none, rfl, s05, hD5, hba5, hrl5, rfl, by simp only [kableL], by rw [List.reverse_reverse]; exact hwl, hL5, ?_, ?_, hc0le, jobs_blk gd.hbb sm.nb _ _ _⟩, ?_⟩
    · have := numW_blk (cfix t.parts) t.ends (fun n => n) (-1) 0 [] t.body 0
      rw [List.append_nil] at this
      rw [List.nil_append, List.length_nil, this]
      simp only [numW, List.append_nil]
      rfl
    · unfold blkT
      rw [List.map_map]
      exact (List.map_id' t.body).symm ▸ hc0
    rintro m σ H6 ⟨Ds, W, rs, ws, y8, y9, y10, y11, y12, y13, rfl, R⟩
    cases W with
    | nil =>
      have hwj := R.wj
      have : ws = [] := hwj
      subst this
      refine ⟨_, rfl, false, .inl ⟨_, SqL.of R.w, rfl⟩, iteF ⟨_, rfl, k rl rs H6 R.s nrl0 R.r ?_⟩⟩
      have := R.eq
      simp only [numW, List.map_nil, List.append_nil] at this
      rw [← this]
      exact R.rd
    | cons j W =>
      have hwj := R.wj
      obtain ⟨u, ws, rfl, hj, hws⟩ := hwj
      have hw6 := R.w
      rw [List.reverse_cons] at hw6
      obtain ⟨a, sv, nd2, rfl, ha, hst, hnm⟩ := hj
      refine ⟨_, rfl, true, .inl ⟨_, SqL.of hw6, by simp⟩, iteT ⟨_, fun _ _ h => h, ?_⟩⟩
      refine ⟨_, rfl, .inl ⟨rfl, _, SqL.of hw6⟩, wl, _, .ref a, rfl, rfl, hw6, last_app _ _, ?_⟩
      rw [List.dropLast_concat]
      have kp := KpL.put (o := .lst ws.reverse) hw6
      have s7 := same_off (o := .lst ws.reverse) nwl0 R.s
      have hd7 : upd H6 wl (.lst ws.reverse) bd = some (.dK (kf (nzP (szOf t.parts) t.parts) fun n => .ref (ba n))) := by rw [upd_ne wlb.symm]; exact R.d
      have hb7 : ∀ p ∈ t.parts, zOf (szOf t.parts) p.name = true → BkAt K (upd H6 wl (.lst ws.reverse)) p (ba p.name) := fun p hp hz => BkAt.kt kp.tup (R.b p hp hz)
      have hr7 : upd H6 wl (.lst ws.reverse) rl = some (.lst rs) := by rw [upd_ne wlr.symm]; exact R.r
      have hrd7 := kyL_at kp.tup R.rk R.rd
      have hw7 : upd H6 wl (.lst ws.reverse) wl = some (.lst ws.reverse) := upd_same
      have hwj7 := hws.mono fun x v h => JobAt.kp kp h
      have ha7 := kp.tup _ _ ha
      have hst7 := ky_at kp.tup (stm_kable _) hst
      have hnm7 : NmAt (upd H6 wl (.lst ws.reverse)) nd2 j.dom j.m := kp _ _ hnm fun _ z => by cases z
      generalize upd H6 wl (.lst ws.reverse) = H7 at s7 hd7 hb7 hr7 hrd7 hw7 hwj7 ha7 hst7 hnm7 ⊢
      refine ⟨a, _, rfl, SqT.of ha7, rfl, _, _, rfl, _, _, rfl, _, _, rfl, _, _, rfl, rfl, ?_⟩
      obtain ⟨q, r, rfl, hq⟩ := stm_kind hst7
      have eqs := R.eq
      have jok := R.ok j (List.mem_cons_self ..)
      have wok := fun x hx => R.ok x (List.mem_cons_of_mem j hx)
      have hcs := R.c
      have hle := R.le
      have lDs : Ds.length ≤ 150 := by
        have := congrArg List.length eqs
        rw [List.length_append, List.length_map, List.length_map] at this
        omega
      refine ⟨_, rfl, q, _, _, _, rfl, rfl, SqT.of hq, atI_nat (j := 0) rfl, rfl, _, rfl, ?_⟩
      have jst : stmRule (cntP t.parts) j.dom j.st = none := jok.ok (j.st, 0) (by rw [preS_inner]; exact List.mem_cons_self ..)
      by_cases hc : isCall j.st = true
      · obtain ⟨st, dom, mm, ow, br⟩ := j
        cases st with
        | call cn es =>
          obtain ⟨p, hp, rfl, hlen, hes⟩ := call_ok gd.ndn jst
          obtain ⟨q2, eb, e2, hq2, heb⟩ := call_at hst7
          cases e2
          have eeq : exS (cfix t.parts) mm (.call p.name es) = exB (cfix t.parts) (bindN p.params (es.map mm)) p.body := by
            simp only [exS]
            exact cfix_eq gd.ndn gd.al gd.hin hp mm es
          refine iteNF rfl ⟨_, rfl, q, _, _, _, rfl, rfl, SqT.of hq2, atI_nat (j := 1) rfl, _, rfl, bd, _, rfl, DGet.k (k := Sum.inr p.name) hd7, ?_⟩
          by_cases hz : zOf (szOf t.parts) p.name = true
          · rw [kf_in (nz_mem hp hz)]
            refine ⟨_, rfl, iteT ?_⟩
            refine ⟨_, rfl, .inl ⟨rfl, _, SqL.of hw7⟩, _, rfl, _, rfl, _, rfl, _, rfl, _, rfl, .ref q, nd2, bd, p, es, dom, mm, ow, br, _, ba p.name, rfl, hst7, hnm7, hes, hlen, gd.ndp p hp, ok.params p hp, hd7, kf_in (nz_mem hp hz), hb7 p hp hz, Nat.le_trans (nB_len _) (ok.n p hp), fun tq us8 H8 s8 ntq htq hL8 => ?_⟩
            rcases cst_inv hcs with ⟨p2, es2, cc, d, e1, hp2, hz2, hcb, hcr, rfl⟩ | ⟨q3, es2, d, e1, hz2, _⟩ | ⟨_, _, hn, _⟩
            · have e3 : p.name = p2.name := by
                have e1 : Stm.call p.name es = .call p2.name es2 := e1
                injection e1
              have := part_eq gd.ndn hp hp2 e3
              subst this
              have hw8 := s8 _ _ hw7
              have lw := hws.len
              have lcr := hcr.len
              have lcb := hcb.len
              have lu := hL8.len
              rw [List.length_map] at lcr
              rw [List.length_reverse, blkT, List.length_map] at lu
              refine ⟨wl, tq, _, us8, rfl, rfl, hw8, htq, ?_, ?_⟩
              · rw [List.length_reverse]
                refine Nat.le_trans ?_ (show 15004000 ≤ sizeLine by decide)
                omega
              · have kp9 := KpL.put (o := .lst (ws.reverse ++ us8)) hw8
                have kp79 := (KpL.of s8).trans kp9
                have s9 := same_off (o := .lst (ws.reverse ++ us8)) nwl0 (s7.trans s8)
                have hLr := hL8.rev
                rw [List.reverse_reverse] at hLr
                refine ⟨cc + d, by omega, Ds, blkT p.body p.params (bindN p.params (es.map mm)) ow br ++ W, rs, us8.reverse ++ ws, _, _, _, _, _, _, rfl, s9, ?_, fun p hp hz => BkAt.kt kp79.tup (hb7 p hp hz), ?_, kyL_at kp79.tup R.rk hrd7, R.rk, ?_, (hLr.mono fun x v h => JobAt.kp kp9 h).app (hwj7.mono fun x v h => JobAt.kp kp79 h), ?_, ?_, by omega, ?_⟩
                · rw [upd_ne wlb.symm]; exact s8 _ _ hd7
                · rw [upd_ne wlr.symm]; exact s8 _ _ hr7
                · rw [upd_same, List.reverse_append, List.reverse_reverse]
                · rw [← eqs, numW_blk]
                  simp only [numW]
                  rw [eeq]
                · rw [List.map_append]
                  refine Cst.app ?_ hcr
                  unfold blkT
                  rw [List.map_map]
                  exact (List.map_id' p.body).symm ▸ hcb
                · intro x hx
                  rcases List.mem_append.mp hx with hx | hx
                  · exact jobs_blk (gd.hb p hp) (sm.n p hp) _ _ _ x hx
                  · exact wok x hx
            · have e1 : Stm.call p.name es = .call q3 es2 := e1
              injection e1 with e1 _
              rw [← e1, hz] at hz2
              cases hz2
            · cases hn
          · have hz : zOf (szOf t.parts) p.name = false := by simpa using hz
            rw [kf_out (nz_out hz)]
            refine ⟨_, rfl, iteF ?_⟩
            have nb0 : nB (exS (cfix t.parts) mm (.call p.name es)) = 0 := by
              simp only [exS]
              rw [cfix_many gd.ndn gd.al gd.hin (gd.al p hp)]
              have := of_decide_eq_false hz
              omega
            have ex0 := nB_zero nb0
            rcases cst_inv hcs with ⟨p2, es2, cc, d, e1, hp2, hz2, hcb, hcr, rfl⟩ | ⟨q3, es2, d, e1, hz2, hcr, rfl⟩ | ⟨_, _, hn, _⟩
            · have e1 : Stm.call p.name es = .call p2.name es2 := e1
              injection e1 with e1 _
              rw [← e1, hz] at hz2
              cases hz2
            · refine ⟨d, by omega, Ds, W, rs, ws, _, _, _, _, _, _, rfl, s7, hd7, hb7, hr7, hrd7, R.rk, hw7, hwj7, ?_, hcr, by omega, wok⟩
              rw [← eqs]
              simp only [numW]
              rw [ex0]
              simp only [numB, nB, List.nil_append, Nat.add_zero]
            · cases hn
        | _ => cases hc
      · have hc : isCall j.st = false := by simpa using hc
        have nk : ¬ V.str (kindS j.st) = V.str "call" := by
          cases hjs : j.st with
          | call q es => rw [hjs] at hc; cases hc
          | _ => exact fun e => absurd (V.str.inj e) (by simp only [kindS]; decide +kernel)
        refine iteNT nk ⟨_, rfl, .ref q, j.st, rfl, hst7, fun ip ivs H8 s8 nip hip hiv => ?_⟩
        rcases cst_inv hcs with ⟨p2, es2, cc, d, e1, _⟩ | ⟨q3, es2, d, e1, _⟩ | ⟨ca, d, _, hcb, hcr, rfl⟩
        · have e1 : j.st = .call p2.name es2 := e1
          rw [e1] at hc
          cases hc
        · have e1 : j.st = .call q3 es2 := e1
          rw [e1] at hc
          cases hc
        have lin : ivs.length = (innerB j.st).length := by rw [hiv.length, List.length_map]
        have hin2 : (innerB j.st).length ≤ 2 := by cases j.st <;> simp [innerB]
        have lcr := hcr.len
        have lcb : (innerB j.st).flatten.length ≤ ca := hcb.len
        rw [List.length_map] at lcr
        refine ⟨_, rfl, ip, ivs, rfl, .inl (SqL.of hip), _, rfl, by omega, by omega, by omega, by omega, ?_⟩
        have eN : (((ivs.length : Nat) : Int) - 0).toNat = (innerB j.st).length := by omega
        have wlip : wl ≠ ip := fun z => by have := s8 _ _ hw7; rw [z, hip] at this; rw [z] at hw7; rw [hw7] at nip; cases nip
        refine for_rangeC (fun i σ H' => ∃ (ws' : List V) (y13 : Option V), σ = [some (.ref tp), some (.ref ep), some (.ref pp), some v2, some (.ref c), some (.ref bd), some (.ref rl), some (.ref wl), some (.ref q), some (.ref nd2), some (.int j.ow), some (.int (j.br : Nat)), some (.ref ip), y13, none, none] ∧
          Same H H' ∧ KpL H8 H' ∧ H' rl = some (.lst rs) ∧ H' ip = some (.lst ivs) ∧ H' wl = some (.lst ws'.reverse) ∧ LR (JobAt K H') (pushI j.dom j.m (Ds.length : Nat) ((innerB j.st).length - i) ((innerB j.st).drop ((innerB j.st).length - i)) ++ W) ws')
          ⟨ws, y13, rfl, s7.trans s8, fun _ _ e _ => e, s8 _ _ hr7, hip, s8 _ _ hw7, ?_⟩ ?_ ?_
        · rw [Nat.sub_zero, List.drop_length]
          exact hwj7.mono fun x v h => JobAt.kp (KpL.of s8) h
        · rintro i σ H9 hi ⟨ws', y13, rfl, s9, kp9, hr9, hip9, hw9, hL9⟩
          rw [eN] at hi
          have eat : 0 + (((((ivs.length : Nat) : Int) - 0).toNat : Nat) : Int) - 1 + (i : Nat) * (-1) = (((innerB j.st).length - 1 - i : Nat) : Int) := by omega
          rw [eat]
          have hk : (innerB j.st).length - 1 - i < (innerB j.st).length := by omega
          obtain ⟨bv9, e1, e2⟩ := (kyL_at kp9.tup (kableL_of fun d hd => by obtain ⟨y, _, rfl⟩ := List.mem_map.mp hd; exact blk_kable2 y) hiv).get (i := (innerB j.st).length - 1 - i) (d := blkDt (innerB j.st)[(innerB j.st).length - 1 - i]) (by rw [List.getElem?_map, List.getElem?_eq_getElem hk]; rfl)
          have hbm := List.getElem_mem hk
          have hnm9 : NmAt H9 nd2 j.dom j.m := kp9 _ _ (s8 _ _ hnm7) fun _ z => by cases z
          have lrs := hrd7.length
          have hble : ((innerB j.st)[(innerB j.st).length - 1 - i]).length ≤ 10000 := by
            have h1 := nS_inner j.st 0
            rw [nW_blk] at h1
            have h2 := nB_len (innerB j.st).flatten
            have h3 := jok.n
            have h4 : ((innerB j.st)[(innerB j.st).length - 1 - i]).length ≤ (innerB j.st).flatten.length := List.Sublist.length_le (List.sublist_flatten_of_mem hbm)
            omega
          refine ⟨_, rfl, .inl ⟨rfl, _, SqL.of hw9⟩, _, rfl, _, rfl, ip, _, _, _, rfl, rfl, SqL.of hip9, atI_nat e1, _, rfl, _, rfl, rl, _, rfl, .inl (SqL.of hr9), _, rfl, bv9, nd2, (innerB j.st)[(innerB j.st).length - 1 - i], j.dom, j.m, _, (innerB j.st).length - 1 - i, rfl, e2, hnm9, hble, fun tq us10 H10 s10 ntq htq hL10 => ?_⟩
          have hw10 := s10 _ _ hw9
          have hLr := hL10.rev
          rw [List.reverse_reverse] at hLr
          have kp10 := KpL.put (o := .lst (ws'.reverse ++ us10)) hw10
          have kp910 := (KpL.of s10).trans kp10
          have edr : (innerB j.st).drop ((innerB j.st).length - (i + 1)) = (innerB j.st)[(innerB j.st).length - 1 - i] :: (innerB j.st).drop ((innerB j.st).length - i) := by
            rw [show (innerB j.st).length - (i + 1) = (innerB j.st).length - 1 - i by omega, List.drop_eq_getElem_cons hk, show (innerB j.st).length - 1 - i + 1 = (innerB j.st).length - i by omega]
          have lw9 := hL9.len
          have lu := hL10.len
          have lps := congrArg List.length (pushI_st j.dom j.m (Ds.length : Nat) ((innerB j.st).length - i) ((innerB j.st).drop ((innerB j.st).length - i)))
          rw [List.length_map] at lps
          have ldf := drop_flat (innerB j.st) ((innerB j.st).length - i)
          rw [List.length_append] at lw9
          rw [List.length_reverse, blkT, List.length_map] at lu
          refine ⟨wl, tq, _, us10, rfl, rfl, hw10, htq, ?_, ?_⟩
          · rw [List.length_reverse]
            refine Nat.le_trans ?_ (show 15004000 + 10000 ≤ sizeLine by decide)
            omega
          · refine ⟨us10.reverse ++ ws', _, rfl, same_off nwl0 (s9.trans s10), (kp9.trans kp910), by rw [upd_ne wlr.symm]; exact s10 _ _ hr9, by rw [upd_ne wlip.symm]; exact s10 _ _ hip9, by rw [upd_same, List.reverse_append, List.reverse_reverse], ?_⟩
            rw [edr, show (innerB j.st).length - (i + 1) = (innerB j.st).length - 1 - i by omega, pushI, List.append_assoc, show (innerB j.st).length - 1 - i + 1 = (innerB j.st).length - i by omega]
            have hlr2 : rs.length = Ds.length := lrs
            rw [hlr2] at hLr
            exact (hLr.mono fun x v h => JobAt.kp kp10 h).app (hL9.mono fun x v h => JobAt.kp kp910 h)
        · rintro σ H9 ⟨ws', y13, rfl, s9, kp9, hr9, hip9, hw9, hL9⟩
          rw [eN, Nat.sub_self, List.drop_zero] at hL9
          have hst9 := ky_at kp9.tup (stm_kable _) (At.keep s8 hst7)
          have hnm9 : NmAt H9 nd2 j.dom j.m := kp9 _ _ (s8 _ _ hnm7) fun _ z => by cases z
          have kp79 := (KpL.of s8).trans kp9
          refine ⟨_, rfl, .inl ⟨rfl, _, SqL.of hr9⟩, _, rfl, _, rfl, .ref q, nd2, j.st, j.dom, j.m, rfl, hst9, hnm9, one_ok jst hc, hc, fun rv H10 s10 hrv => ?_⟩
          refine ⟨_, rfl, _, rfl, by show 3 ≤ sizeLine; decide, fun tt ntt => ?_⟩
          have s11 := same_upd (o := .tup [rv, .int j.ow, .int (j.br : Nat)]) ntt
          have hr11 := s11 _ _ (s10 _ _ hr9)
          have lrs := hrd7.length
          refine ⟨rl, _, _, rfl, rfl, hr11, sz6' (by rw [lrs]; omega), ?_⟩
          have kpr := KpL.put (o := .lst (rs ++ [.ref tt])) hr11
          have kp911 := (KpL.of (s10.trans s11)).trans kpr
          have kp711 := kp79.trans kp911
          have hrow : At K (upd (upd H10 tt (.tup [rv, .int j.ow, .int (j.br : Nat)])) rl (.lst (rs ++ [.ref tt]))) (.tup [flS (renH j.m j.st), .int j.ow, .int (j.br : Nat)]) (.ref tt) := by
            have h1 := ky_at kpr.tup (flS_kable _) (At.keep s11 hrv)
            simp only [At, AtL]
            exact ⟨tt, _, rfl, kpr.tup _ _ upd_same, _, _, rfl, h1, _, _, rfl, rfl, _, _, rfl, rfl, rfl⟩
          refine ⟨ca + d, by omega, Ds ++ [.tup [flS (renH j.m j.st), .int j.ow, .int (j.br : Nat)]], pushI j.dom j.m (Ds.length : Nat) 0 (innerB j.st) ++ W, rs ++ [.ref tt], ws', _, _, _, _, _, _, rfl, same_off nrl0 (s9.trans (s10.trans s11)), ?_, fun p hp hz => BkAt.kt kp711.tup (hb7 p hp hz), upd_same, AtL.snoc hrow (kyL_at kp711.tup R.rk hrd7), ?_, ?_, hL9.mono fun x v h => JobAt.kp kp911 h, ?_, ?_, by omega, ?_⟩
          · rw [upd_ne rlb.symm]
            exact (s10.trans s11) _ _ (kp9 _ _ (s8 _ _ hd7) fun _ z => by cases z)
          · exact kableL_app.mpr ⟨R.rk, by simp [kableL, kable, flS_kable]⟩
          · rw [upd_ne wlr]
            exact (s10.trans s11) _ _ hw9
          · rw [← eqs, numW_one _ _ hc, List.append_assoc, List.length_append, List.length_singleton]
            rfl
          · rw [List.map_append, pushI_st]
            exact hcb.app hcr
          · intro x hx
            rcases List.mem_append.mp hx with hx | hx
            · exact pushI_ok jok _ 0 _ (fun b hb => hb) x hx
            · exact wok x hx
end
end OS

namespace OS
open PySem PySem.Spec PyProof.Rows L2
/-! ### where it goes on -/
def sameB (r : Row) (o : Int) (b : Nat) : Bool := decide (r.ow = o ∧ r.br = b)
/-- the last row of this block, among the first n -/
def lastI (rows : List Row) : Nat → Int → Nat → Option Nat
  | 0, _, _ => none
  | n + 1, o, b => match rows[n]? with
    | some r => if sameB r o b = true then some n else lastI rows n o b
    | none => lastI rows n o b
/-- the first one -/
def firstI (rows : List Row) : Nat → Int → Nat → Option Nat
  | 0, _, _ => none
  | n + 1, o, b => match rows[n]? with
    | some r => if sameB r o b = true ∧ lastI rows n o b = none then some n else firstI rows n o b
    | none => firstI rows n o b
/-- the next row of its block -/
def folI (rows : List Row) : Nat → Nat → Option Nat
  | 0, _ => none
  | n + 1, p => match rows[n]? with
    | some r => if lastI rows n r.ow r.br = some p then some n else folI rows n p
    | none => folI rows n p
/-- where it goes on behind row p; bs has this for all before -/
def nextP (rows : List Row) (n p : Nat) (bs : List Nat) : Nat :=
  match folI rows n p with
  | some j => j
  | none => match rows[p]? with
    | none => 0
    | some r => if r.ow = -1 then n else match rows[r.ow.toNat]? with
      | none => 0
      | some q => if kindS q.st = "while" then r.ow.toNat else (bs[r.ow.toNat]?).getD 0
def behL (rows : List Row) (n : Nat) : Nat → List Nat
  | 0 => []
  | i + 1 => behL rows n i ++ [nextP rows n i (behL rows n i)]
def goalP (rows : List Row) (n p g : Nat) : List Nat :=
  match rows[p]? with
  | none => []
  | some r => if kindS r.st = "if" then [(firstI rows n (p : Nat) 0).getD g, (firstI rows n (p : Nat) 1).getD g] else if kindS r.st = "while" then [(firstI rows n (p : Nat) 0).getD p, g] else [g]
def goalL (rows : List Row) (n : Nat) : Nat → List (List Nat)
  | 0 => []
  | i + 1 => goalL rows n i ++ [goalP rows n i (nextP rows n i (behL rows n i))]
def nextsI (rows : List Row) : List (List Nat) := goalL rows rows.length rows.length
theorem behL_len (rows : List Row) (n : Nat) : ∀ i, (behL rows n i).length = i
  | 0 => rfl
  | i + 1 => by rw [behL, List.length_append, behL_len rows n i]; rfl
theorem goalL_len (rows : List Row) (n : Nat) : ∀ i, (goalL rows n i).length = i
  | 0 => rfl
  | i + 1 => by rw [goalL, List.length_append, goalL_len rows n i]; rfl
def optV (o : Option Nat) : Option V := o.map fun n => V.int (n : Nat)
def kyR (o : Int) (b : Nat) : List Key := [Sum.inl o, Sum.inl ((b : Nat) : Int)]
/-- owners stand before what they own -/
def OwOk (rows : List Row) : Prop := ∀ i r, rows[i]? = some r → r.ow = -1 ∨ ∃ o : Nat, r.ow = ((o : Nat) : Int) ∧ o < i
def intD (l : List Nat) : Dt := .tup (l.map fun n => Dt.int (n : Nat))
theorem row_at {K : PySem.W.Frag} {H : Hp} {r : Row} {v : V} (h : At K H (rowD r) v) : ∃ a sv, v = .ref a ∧ H a = some (.tup [sv, .int r.ow, .int (r.br : Nat)]) ∧ At K H (flS r.st) sv := by
  simp only [rowD, At, AtL] at h
  obtain ⟨a, vs, rfl, ha, sv, _, rfl, h1, _, _, rfl, rfl, _, _, rfl, rfl, rfl⟩ := h
  exact ⟨a, sv, rfl, ha, h1⟩
theorem fl_kind {K : PySem.W.Frag} {H : Hp} {s : Stm} {v : V} (h : At K H (flS s) v) : ∃ p r, v = .ref p ∧ H p = some (.tup (.str (kindS s) :: r)) := by
  cases s <;>
  · unfold flS At at h
    obtain ⟨p, vs, rfl, hp, hl⟩ := h
    simp only [AtL] at hl
    obtain ⟨v0, r0, rfl, h0, _⟩ := hl
    unfold At at h0
    subst h0
    exact ⟨p, _, rfl, hp⟩
theorem rowD_kab (r : Row) : kable (rowD r) := by simp [rowD, kable, kableL, flS_kable]
theorem rows_kab (rows : List Row) : kableL (rows.map rowD) := kableL_of fun d hd => by
  obtain ⟨r, _, rfl⟩ := List.mem_map.mp hd
  exact rowD_kab r
theorem kyR_inj {o o2 : Int} {b b2 : Nat} : kyR o b = kyR o2 b2 ↔ o = o2 ∧ b = b2 := by
  unfold kyR
  constructor
  · intro h
    simp only [List.cons.injEq, Sum.inl.injEq, and_true] at h
    exact ⟨h.1, by omega⟩
  · rintro ⟨rfl, rfl⟩
    rfl
theorem put_len {κ : Type} [DecidableEq κ] (c : List (κ × V)) (k : κ) (x : V) : (putK c k x).length ≤ c.length + 1 := by
  unfold putK
  split
  · rw [List.length_map]
    omega
  · rw [List.length_append, List.length_singleton]
    exact Nat.le_refl _
structure DI (H0 H : Hp) (rows : List Row) (fi la fo : Addr) (i j k : Nat) : Prop where
  s : Same H0 H
  f : ∃ kf, H fi = some (.dT kf) ∧ kf.length ≤ i ∧ ∀ o b, valV kf (kyR o b) = optV (firstI rows i o b)
  l : ∃ kl, H la = some (.dT kl) ∧ kl.length ≤ j ∧ ∀ o b, valV kl (kyR o b) = optV (lastI rows j o b)
  o : ∃ ko, H fo = some (.dK ko) ∧ ko.length ≤ k ∧ ∀ p : Nat, valV ko (Sum.inl ((p : Nat) : Int)) = optV (folI rows k p)
theorem DI.keep {H0 H H' : Hp} {rows : List Row} {fi la fo : Addr} {i j k : Nat} (d : DI H0 H rows fi la fo i j k) (s : Same H H') : DI H0 H' rows fi la fo i j k := by
  obtain ⟨s1, ⟨kf, f1, f2⟩, ⟨kl, l1, l2⟩, ⟨ko, o1, o2⟩⟩ := d
  exact ⟨s1.trans s, ⟨kf, s _ _ f1, f2⟩, ⟨kl, s _ _ l1, l2⟩, ⟨ko, s _ _ o1, o2⟩⟩
theorem DI.off {H0 H : Hp} {rows : List Row} {fi la fo : Addr} {i j k : Nat} (d : DI H0 H rows fi la fo i j k) {x : Addr} {xs : List V} {ob : HO} (h : H x = some (.lst xs)) (h0 : H0 x = none) : DI H0 (upd H x ob) rows fi la fo i j k := by
  obtain ⟨s1, ⟨kf, f1, f2⟩, ⟨kl, l1, l2⟩, ⟨ko, o1, o2⟩⟩ := d
  exact ⟨same_off h0 s1, ⟨kf, by rw [upd_ne (fun z => by rw [z, h] at f1; cases f1)]; exact f1, f2⟩, ⟨kl, by rw [upd_ne (fun z => by rw [z, h] at l1; cases l1)]; exact l1, l2⟩, ⟨ko, by rw [upd_ne (fun z => by rw [z, h] at o1; cases o1)]; exact o1, o2⟩⟩
theorem opt_some {o : Option Nat} {n : Nat} (h : o = some n) : optV o = some (.int (n : Nat)) := by rw [h]; rfl
theorem goals_kab (l : List (List Nat)) : kableL (l.map intD) := kableL_of fun d hd => by
  obtain ⟨r, _, rfl⟩ := List.mem_map.mp hd
  refine kableL_of fun d hd => ?_
  obtain ⟨n, _, rfl⟩ := List.mem_map.mp hd
  simp [kable]
theorem intD_at {K : PySem.W.Frag} {H : Hp} {a : Addr} {l : List Nat} (h : H a = some (.tup (l.map fun n => V.int (n : Nat)))) : At K H (intD l) (.ref a) := by
  unfold intD At
  refine ⟨a, _, rfl, h, ?_⟩
  clear h
  induction l with
  | nil => simp [AtL]
  | cons x r ih =>
    simp only [List.map_cons, AtL, At]
    exact ⟨_, _, rfl, rfl, ih⟩
section
variable {P : Program} {w : World} {K : PySem.W.Frag} {mg : Str → Option Value} {base : Heap}
def spNxt (K : PySem.W.Frag) : Sp := fun vs H Q _ => ∃ (rp fo bl : Addr) (us : List V) (rows : List Row) (i : Nat) (ko : List (Key × V)) (bs : List Nat), vs = [.ref rp, .int (i : Nat), .ref fo, .ref bl] ∧ H rp = some (.lst us) ∧ AtL K H (rows.map rowD) us ∧ H fo = some (.dK ko) ∧ (∀ p : Nat, valV ko (Sum.inl (p : Int)) = optV (folI rows rows.length p)) ∧
  H bl = some (.lst (bs.map fun n => V.int (n : Nat))) ∧ bs.length = i ∧ i < rows.length ∧ OwOk rows ∧ Q (.int (nextP rows rows.length i bs : Nat)) H
theorem ok_next_position {f : Addr} {fd : FuncData} (F : Fun K "next_position" "next_position" s_next_position f fd) (T : Txt K mg) (TF : FlatTxt mg) : FnOk P w K mg base CX0 1 f fd ["rows", "position", "followers", "behind"] (spNxt K) := by
  refine F.ok sc_next_position (fun vs H Q E h => ?_) (fun cdv A outer s H vs Q E hr h => ?_)
  · obtain ⟨rp, fo, bl, us, rows, i, ko, bs, rfl, _⟩ := h
    rfl
  · obtain ⟨rp, fo, bl, us, rows, i, ko, bs, rfl, hrp, hA, hfo, hko, hbl, lbs, hi, how, k⟩ := h
    obtain ⟨tw, m_WHOLE⟩ := TF.wh
    have hu := hu_of hr
    have lus := hA.length
    rw [List.length_map] at lus
    have getR : ∀ (j : Nat) (hj : j < rows.length), ∃ a sv, us[j]? = some (.ref a) ∧ H a = some (.tup [sv, .int rows[j].ow, .int (rows[j].br : Nat)]) ∧ At K H (flS rows[j].st) sv := fun j hj => by
      obtain ⟨v, e1, e2⟩ := hA.get (i := j) (d := rowD rows[j]) (by rw [List.getElem?_map, List.getElem?_eq_getElem hj]; rfl)
      obtain ⟨a, sv, rfl, h1, h2⟩ := row_at e2
      exact ⟨a, sv, e1, h1, h2⟩
    obtain ⟨a, sv, ea, ha, _⟩ := getR i hi
    have hri := List.getElem?_eq_getElem hi
    refine ⟨_, (pss_cons (ps_set (i := 4) sc_next_position.nd rfl (.inl rfl) (pe_ix ix_tup (pe_ix ix_list (pv 0) (pv 1) (fun _ _ => rfl)) pe_int (fun _ _ => rfl)))
      (pss_cons (ps_if (pt_cmp (pc_din hu (pv 1) (pv 2))) (pss_one (ps_ret (pe_dget hu (pv 2) (pv 1) (fun _ _ => rfl)))) pss_nil)
      (pss_cons (ps_if (pt_cmpR op_eq (pv 4) (pe_glob rfl m_WHOLE relI) (nomark _)) (pss_one (ps_ret (pe_callB call_len_seq (by rfl) T.len PySem.boot_len (pa_cons (pv 0) pa_nil)))) pss_nil)
      (pss_one (ps_ret (pe_ifExp (pt_cmpR op_eq (pe_ix ix_tup (pe_ix ix_tup (pe_ix ix_list (pv 0) (pv 4) (fun _ _ => rfl)) pe_int (fun _ _ => rfl)) pe_int (fun _ _ => rfl)) pe_str (nomark _)) (pv 4) (pe_ix ix_list (pv 3) (pv 4) (fun _ _ => rfl)))))))), ?_⟩
    refine ⟨_, rfl, _, rfl, rp, _, _, _, rfl, rfl, SqL.of hrp, atI_nat ea, a, _, _, _, rfl, rfl, SqT.of ha, atI_nat (j := 1) rfl, ?_⟩
    refine ⟨_, rfl, _, rfl, fo, _, rfl, DGet.k (k := Sum.inl ((i : Nat) : Int)) hfo, ?_⟩
    rw [hko i]
    refine ⟨_, rfl, ?_⟩
    unfold nextP at k
    cases hf : folI rows rows.length i with
    | some j =>
      rw [hf] at k
      have dg : DGet H fo (.int (i : Nat)) (some (.int (j : Nat))) := by
        have := DGet.k (k := Sum.inl ((i : Nat) : Int)) hfo
        rw [hko i, hf] at this
        exact this
      exact iteT ⟨_, rfl, _, rfl, fo, _, rfl, dg, k⟩
    | none =>
      rw [hf, hri] at k
      refine iteF ⟨_, rfl, rfl, _, rfl, ?_⟩
      have k : Q (.int ((if rows[i].ow = -1 then rows.length else match rows[rows[i].ow.toNat]? with | none => 0 | some q => if kindS q.st = "while" then rows[i].ow.toNat else (bs[rows[i].ow.toNat]?).getD 0 : Nat) : Int)) H := k
      by_cases c1 : rows[i].ow = -1
      · rw [if_pos c1] at k
        refine iteDT (by rw [c1]) ⟨_, rfl, rp, _, rfl, .inl (SqL.of hrp), ?_⟩
        rw [lus]
        exact k
      · rw [if_neg c1] at k
        obtain ⟨o, eo, ho⟩ := (how i _ hri).resolve_left c1
        have ho2 : o < rows.length := by omega
        obtain ⟨a2, sv2, ea2, ha2, hs2⟩ := getR o ho2
        obtain ⟨p2, r2, rfl, hp2⟩ := fl_kind hs2
        have et : rows[i].ow.toNat = o := by omega
        rw [et, List.getElem?_eq_getElem ho2] at k
        have k : Q (.int ((if kindS rows[o].st = "while" then o else (bs[o]?).getD 0 : Nat) : Int)) H := k
        rw [eo]
        refine iteDF (fun z => by injection z with z; omega) ⟨_, rfl, _, rfl, rp, _, _, _, rfl, rfl, SqL.of hrp, atI_nat ea2, a2, _, _, _, rfl, rfl, SqT.of ha2, atI_nat (j := 0) rfl, p2, _, _, _, rfl, rfl, SqT.of hp2, atI_nat (j := 0) rfl, rfl, _, rfl, ?_⟩
        by_cases c2 : kindS rows[o].st = "while"
        · rw [if_pos c2] at k
          exact iteDT (by rw [c2]) ⟨_, rfl, k⟩
        · rw [if_neg c2] at k
          have ob : o < bs.length := by omega
          rw [List.getElem?_eq_getElem ob] at k
          exact iteDF (fun z => c2 (V.str.inj z)) ⟨_, rfl, _, rfl, bl, _, _, _, rfl, rfl, SqL.of hbl, atI_nat (by rw [List.getElem?_map, List.getElem?_eq_getElem ob]; rfl), k⟩
def spNexts (K : PySem.W.Frag) : Sp := fun vs H Q _ => ∃ (rp : Addr) (us : List V) (rows : List Row), vs = [.ref rp] ∧ H rp = some (.lst us) ∧ AtL K H (rows.map rowD) us ∧ rows.length ≤ 150 ∧ OwOk rows ∧ ∀ r H', Same H H' → At K H' (.tup ((nextsI rows).map intD)) r → Q r H'
theorem ok_next_positions {f : Addr} {fd : FuncData} (F : Fun K "next_positions" "next_positions" s_next_positions f fd) (T : Txt K mg) {f_next_position : Addr} {d_next_position : FuncData} (c_next_position : Cal P w K mg base 1 "next_position" ["rows", "position", "followers", "behind"] (spNxt K) f_next_position d_next_position) : FnOk P w K mg base CX0 2 f fd ["rows"] (spNexts K) := by
  refine F.ok sc_next_positions (fun vs H Q E h => ?_) (fun cdv A outer s H vs Q E hr h => ?_)
  · obtain ⟨rp, us, rows, rfl, _⟩ := h
    rfl
  · obtain ⟨rp, us, rows, rfl, hrp, hA, hn, how, k⟩ := h
    have hu := hu_of hr
    have lus := hA.length
    rw [List.length_map] at lus
    refine ⟨_, (pss_cons (ps_set (i := 1) sc_next_positions.nd rfl (.inl rfl) pe_dnewT)
      (pss_cons (ps_set (i := 2) sc_next_positions.nd rfl (.inl rfl) pe_dnewT)
      (pss_cons (ps_set (i := 3) sc_next_positions.nd rfl (.inl rfl) pe_dnewK)
      (Evl.pss_cut (ps_for PassesOwn.never rfl (pi_enum (by rfl) T.enumerate (pa_cons (pv 0) pa_nil)) (pg_tup (by rfl) (pgs_cons (pg_name (i := 4) sc_next_positions.nd rfl (.inl rfl)) (pgs_cons (pg_tup (by rfl) (pgs_cons (pg_name (i := 5) sc_next_positions.nd rfl (.inl rfl)) (pgs_cons (pg_name (i := 6) sc_next_positions.nd rfl (.inl rfl)) (pgs_cons (pg_name (i := 7) sc_next_positions.nd rfl (.inl rfl)) pgs_nil)))) pgs_nil))) (Evl.pss_cut (ps_if (pt_cmp (pc_din hu (pe_tup (pa_cons (pv 6) (pa_cons (pv 7) pa_nil))) (pv 2))) (pss_one (ps_dput hu (pv 3) (pe_dget hu (pv 2) (pe_tup (pa_cons (pv 6) (pa_cons (pv 7) pa_nil))) (fun _ _ => rfl)) (pv 4) rfl)) (pss_one (ps_dput hu (pv 1) (pe_tup (pa_cons (pv 6) (pa_cons (pv 7) pa_nil))) (pv 4) rfl)))
      (pss_one (ps_dput hu (pv 2) (pe_tup (pa_cons (pv 6) (pa_cons (pv 7) pa_nil))) (pv 4) rfl))))
      (pss_cons (ps_set (i := 8) sc_next_positions.nd rfl (.inl rfl) (pe_lst pa_nil))
      (pss_cons (ps_set (i := 9) sc_next_positions.nd rfl (.inl rfl) (pe_lst pa_nil))
      (Evl.pss_cut (ps_for PassesOwn.never rfl (pi_enum (by rfl) T.enumerate (pa_cons (pv 0) pa_nil)) (pg_tup (by rfl) (pgs_cons (pg_name (i := 4) sc_next_positions.nd rfl (.inl rfl)) (pgs_cons (pg_tup (by rfl) (pgs_cons (pg_name (i := 10) sc_next_positions.nd rfl (.inl rfl)) (pgs_cons (pg_name (i := 5) sc_next_positions.nd rfl (.inl rfl)) (pgs_cons (pg_name (i := 5) sc_next_positions.nd rfl (.inl rfl)) pgs_nil)))) pgs_nil))) (pss_cons (ps_set (i := 11) sc_next_positions.nd rfl (.inl rfl) (pe_call c_next_position.G (hr.mono (by decide)) (by rfl) c_next_position.m c_next_position.k c_next_position.b .nil pass0 (pa_cons (pv 0) (pa_cons (pv 4) (pa_cons (pv 3) (pa_cons (pv 8) pa_nil))))))
      (pss_cons (ps_expr (pe_bm PySem.F.plainAttrs_list PySem.F.slot_list_append PySem.F.type_list_append mt_append (pv 8) (pa_cons (pv 11) pa_nil)))
      (pss_one (ps_if (pt_cmpR op_eq (pe_ix ix_tup (pv 10) pe_int (fun _ _ => rfl)) pe_str (nomark _)) (pss_one (ps_expr (pe_bm PySem.F.plainAttrs_list PySem.F.slot_list_append PySem.F.type_list_append mt_append (pv 9) (pa_cons (pe_tup (pa_cons (pe_dget2 (lt_units hr.units) (pv 1) (pe_tup (pa_cons (pv 4) (pa_cons pe_int pa_nil))) (pv 11) ⟨rfl, rfl, rfl, rfl⟩) (pa_cons (pe_dget2 (lt_units hr.units) (pv 1) (pe_tup (pa_cons (pv 4) (pa_cons pe_int pa_nil))) (pv 11) ⟨rfl, rfl, rfl, rfl⟩) pa_nil))) pa_nil)))) (pss_one (ps_if (pt_cmpR op_eq (pe_ix ix_tup (pv 10) pe_int (fun _ _ => rfl)) pe_str (nomark _)) (pss_one (ps_expr (pe_bm PySem.F.plainAttrs_list PySem.F.slot_list_append PySem.F.type_list_append mt_append (pv 9) (pa_cons (pe_tup (pa_cons (pe_dget2 (lt_units hr.units) (pv 1) (pe_tup (pa_cons (pv 4) (pa_cons pe_int pa_nil))) (pv 4) ⟨rfl, rfl, rfl, rfl⟩) (pa_cons (pv 11) pa_nil))) pa_nil)))) (pss_one (ps_expr (pe_bm PySem.F.plainAttrs_list PySem.F.slot_list_append PySem.F.type_list_append mt_append (pv 9) (pa_cons (pe_tup (pa_cons (pv 11) pa_nil)) pa_nil)))))))))))
      (pss_one (ps_ret (pe_callTy call_tuple_of (by rfl) T.tuple (by decide +kernel) (pa_cons (pv 9) pa_nil))))))))))), ?_⟩
    refine fun fi nfi la nla fo nfo => ?_
    have s1 := (same_upd (o := .dT []) nfi).trans ((same_upd (o := .dT []) nla).trans (same_upd (o := .dK []) nfo))
    have s2 := (same_upd (o := .dT []) nla).trans (same_upd (o := .dK []) nfo)
    have hfi := s2 fi _ upd_same
    have hla := (same_upd (o := .dK []) nfo) la _ upd_same
    have hfo : upd (upd (upd H fi (.dT [])) la (.dT [])) fo (.dK []) fo = some (.dK []) := upd_same
    have fila : fi ≠ la := fun z => by rw [← z, upd_same] at nla; cases nla
    have nla0 : H la = none := (same_upd (o := .dT []) nfi).free nla
    have nfo0 : H fo = none := ((same_upd (o := .dT []) nfi).trans (same_upd (o := .dT []) nla)).free nfo
    have D0 : DI H (upd (upd (upd H fi (.dT [])) la (.dT [])) fo (.dK [])) rows fi la fo 0 0 0 := ⟨s1, ⟨[], hfi, Nat.le_refl _, fun _ _ => rfl⟩, ⟨[], hla, Nat.le_refl _, fun _ _ => rfl⟩, ⟨[], hfo, Nat.le_refl _, fun _ => rfl⟩⟩
    generalize upd (upd (upd H fi (.dT [])) la (.dT [])) fo (.dK []) = H1 at D0
    have getR : ∀ (j : Nat) (hj : j < rows.length) H', Same H H' → ∃ a sv, us[j]? = some (.ref a) ∧ H' a = some (.tup [sv, .int rows[j].ow, .int (rows[j].br : Nat)]) ∧ At K H' (flS rows[j].st) sv := fun j hj H' s => by
      obtain ⟨v, e1, e2⟩ := hA.get (i := j) (d := rowD rows[j]) (by rw [List.getElem?_map, List.getElem?_eq_getElem hj]; rfl)
      obtain ⟨a, sv, rfl, h1, h2⟩ := row_at e2
      exact ⟨a, sv, e1, s _ _ h1, At.keep s h2⟩
    refine ⟨fun σ H' => ∃ y4 y5 y6 y7, σ = [some (.ref rp), some (.ref fi), some (.ref la), some (.ref fo), y4, y5, y6, y7, none, none, none, none] ∧ DI H H' rows fi la fo rows.length rows.length rows.length, ?_, ?_⟩
    · refine ⟨_, rfl, rp, us, rfl, SqL.of (D0.s _ _ hrp), ?_⟩
      refine for_it (walk_enum (K := K) (a := rp) (xs := us)) (fun i σ H' => ∃ y4 y5 y6 y7, σ = [some (.ref rp), some (.ref fi), some (.ref la), some (.ref fo), y4, y5, y6, y7, none, none, none, none] ∧ DI H H' rows fi la fo i i i) ⟨_, _, _, _, rfl, D0⟩ (fun i σ H' _ q => by obtain ⟨_, _, _, _, _, d⟩ := q; exact SqL.of (d.s _ _ hrp)) ?_ ?_
      · rintro i x σ H2 H3 hi ⟨y4, y5, y6, y7, rfl, D2⟩ ⟨T0, x1, x2, rfl, nT, rfl, e1, e2⟩
        rw [lus] at hi
        have s3 := same_upd (o := .tup [x1, x2]) nT
        have D3 := D2.keep s3
        obtain ⟨a, sv, ea, ha, _⟩ := getR i hi _ D3.s
        have e2 : us[i]? = some x2 := e2
        rw [ea] at e2
        cases e2
        have e1 : some (V.int (i : Nat)) = some x1 := e1
        cases e1
        have hT : upd H2 T0 (.tup [.int (i : Nat), .ref a]) T0 = some (.tup [.int (i : Nat), .ref a]) := upd_same
        generalize upd H2 T0 (.tup [.int (i : Nat), .ref a]) = H3 at D3 ha hT ⊢
        have hri := List.getElem?_eq_getElem hi
        generalize rows[i] = rw0 at ha hri
        refine ⟨T0, _, rfl, SqT.of hT, rfl, _, _, rfl, _, _, rfl, a, _, rfl, SqT.of ha, rfl, _, _, rfl, _, _, rfl, _, _, rfl, rfl, rfl, ?_⟩
        refine ⟨fun σ H' => σ = [some (.ref rp), some (.ref fi), some (.ref la), some (.ref fo), some (.int (i : Nat)), some sv, some (.int rw0.ow), some (.int (rw0.br : Nat)), none, none, none, none] ∧ DI H H' rows fi la fo (i + 1) i (i + 1), ?_, ?_⟩
        · refine ⟨_, rfl, _, rfl, by show 2 ≤ sizeLine; decide, fun t1 n1 => ?_⟩
          have s4 := same_upd (o := .tup [V.int rw0.ow, .int (rw0.br : Nat)]) n1
          have D4 := D3.keep s4
          have ht1 : upd H3 t1 (.tup [V.int rw0.ow, .int (rw0.br : Nat)]) t1 = some (.tup ((kyR rw0.ow rw0.br).map kV)) := upd_same
          generalize upd H3 t1 (.tup [V.int rw0.ow, .int (rw0.br : Nat)]) = H4 at D4 ht1 ⊢
          obtain ⟨sk, ⟨kf, f1, f2, f3⟩, ⟨kl, l1, l2, l3⟩, ⟨ko, o1, o2, o3⟩⟩ := D4
          refine ⟨_, rfl, la, _, rfl, DGet.t l1 ht1, _, rfl, ?_⟩
          rw [l3]
          cases hl : lastI rows i rw0.ow rw0.br with
          | some p =>
            refine iteT ⟨_, rfl, _, rfl, _, rfl, _, rfl, _, rfl, by show 2 ≤ sizeLine; decide, fun t2 n2 => ?_⟩
            have s5 := same_upd (o := .tup [V.int rw0.ow, .int (rw0.br : Nat)]) n2
            have ht2 : upd H4 t2 (.tup [V.int rw0.ow, .int (rw0.br : Nat)]) t2 = some (.tup ((kyR rw0.ow rw0.br).map kV)) := upd_same
            have dg : DGet (upd H4 t2 (.tup [V.int rw0.ow, .int (rw0.br : Nat)])) la (.ref t2) (some (.int (p : Nat))) := by
              have := DGet.t (s5 _ _ l1) ht2
              rw [l3, opt_some hl] at this
              exact this
            have f5 := s5 _ _ f1
            have l5 := s5 _ _ l1
            have o5 := s5 _ _ o1
            refine ⟨la, _, rfl, dg, fo, _, rfl, DPut.k (k := Sum.inl ((p : Nat) : Int)) o5 (sz6' (by omega)), rfl, same_off nfo0 (sk.trans s5), ⟨kf, ?_, by omega, fun o b => ?_⟩, ⟨kl, ?_, l2, l3⟩, ⟨_, upd_same, Nat.le_trans (put_len _ _ _) (by omega), fun q => ?_⟩⟩
            · rw [upd_ne (fun z => by rw [z, o5] at f5; cases f5)]; exact f5
            · rw [f3, firstI, hri]
              by_cases c : sameB rw0 o b = true ∧ lastI rows i o b = none
              · have c1 := of_decide_eq_true c.1
                rw [← c1.1, ← c1.2, hl] at c
                cases c.2
              · simp only [if_neg c]
            · rw [upd_ne (fun z => by rw [z, o5] at l5; cases l5)]; exact l5
            · rw [valV_put, o3, folI, hri]
              show _ = optV (if lastI rows i rw0.ow rw0.br = some q then some i else folI rows i q)
              rw [hl]
              by_cases c : q = p
              · subst c
                rw [if_pos rfl, if_pos rfl]
                rfl
              · rw [if_neg (fun z => c (by injection z with z; omega)), if_neg (fun z => c (by injection z with z; exact z.symm))]
          | none =>
            refine iteF ⟨_, rfl, _, rfl, _, rfl, _, rfl, by show 2 ≤ sizeLine; decide, fun t2 n2 => ?_⟩
            have s5 := same_upd (o := .tup [V.int rw0.ow, .int (rw0.br : Nat)]) n2
            have ht2 : upd H4 t2 (.tup [V.int rw0.ow, .int (rw0.br : Nat)]) t2 = some (.tup ((kyR rw0.ow rw0.br).map kV)) := upd_same
            have f5 := s5 _ _ f1
            have l5 := s5 _ _ l1
            have o5 := s5 _ _ o1
            refine ⟨fi, _, rfl, DPut.t f5 ht2 (sz6' (by omega)), rfl, same_off nfi (sk.trans s5), ⟨_, upd_same, Nat.le_trans (put_len _ _ _) (by omega), fun o b => ?_⟩, ⟨kl, ?_, l2, l3⟩, ⟨ko, ?_, by omega, fun q => ?_⟩⟩
            · rw [valV_put, f3, firstI, hri]
              show _ = optV (if sameB rw0 o b = true ∧ lastI rows i o b = none then some i else firstI rows i o b)
              by_cases c : kyR o b = kyR rw0.ow rw0.br
              · obtain ⟨rfl, rfl⟩ := kyR_inj.mp c
                rw [if_pos rfl, if_pos ⟨decide_eq_true ⟨rfl, rfl⟩, hl⟩]
                rfl
              · rw [if_neg c, if_neg (fun z => c (by have := of_decide_eq_true z.1; rw [this.1, this.2]))]
            · rw [upd_ne fila.symm]; exact l5
            · rw [upd_ne (fun z => by rw [z, f5] at o5; cases o5)]; exact o5
            · rw [o3, folI, hri]
              show _ = optV (if lastI rows i rw0.ow rw0.br = some q then some i else folI rows i q)
              rw [hl, if_neg (fun z => by cases z)]
        · rintro σ H4 ⟨rfl, D4⟩
          refine ⟨_, rfl, _, rfl, _, rfl, _, rfl, by show 2 ≤ sizeLine; decide, fun t2 n2 => ?_⟩
          have s5 := same_upd (o := .tup [V.int rw0.ow, .int (rw0.br : Nat)]) n2
          have ht2 : upd H4 t2 (.tup [V.int rw0.ow, .int (rw0.br : Nat)]) t2 = some (.tup ((kyR rw0.ow rw0.br).map kV)) := upd_same
          obtain ⟨sk, ⟨kf, f1, f2, f3⟩, ⟨kl, l1, l2, l3⟩, ⟨ko, o1, o2, o3⟩⟩ := D4.keep s5
          refine ⟨la, _, rfl, DPut.t l1 ht2 (sz6' (by omega)), _, _, _, _, rfl, same_off nla0 sk, ⟨kf, ?_, f2, f3⟩, ⟨_, upd_same, Nat.le_trans (put_len _ _ _) (by omega), fun o b => ?_⟩, ⟨ko, ?_, o2, o3⟩⟩
          · rw [upd_ne fila]; exact f1
          · rw [valV_put, l3, lastI, hri]
            show _ = optV (if sameB rw0 o b = true then some i else lastI rows i o b)
            by_cases c : kyR o b = kyR rw0.ow rw0.br
            · obtain ⟨rfl, rfl⟩ := kyR_inj.mp c
              rw [if_pos rfl, if_pos (show sameB rw0 rw0.ow rw0.br = true from decide_eq_true ⟨rfl, rfl⟩)]
              rfl
            · rw [if_neg c, if_neg (fun z => c (by have := of_decide_eq_true z; rw [this.1, this.2]))]
          · rw [upd_ne (fun z => by rw [z, l1] at o1; cases o1)]; exact o1
      · rintro σ H2 ⟨y4, y5, y6, y7, rfl, D2⟩
        rw [lus] at D2
        exact ⟨_, _, _, _, rfl, D2⟩
    rintro σ H2 ⟨y4, y5, y6, y7, rfl, D2⟩
    refine ⟨Nat.zero_le _, fun bl nbl => ⟨Nat.zero_le _, fun gl ngl => ?_⟩⟩
    have nbl0 : H bl = none := D2.s.free nbl
    have hbl3 : upd H2 bl (.lst []) bl = some (.lst []) := upd_same
    have D3 := D2.keep (same_upd (o := .lst []) nbl)
    generalize upd H2 bl (.lst []) = H3 at ngl hbl3 D3 ⊢
    have ngl0 : H gl = none := D3.s.free ngl
    have hbl4 := (same_upd (o := .lst []) ngl) _ _ hbl3
    have hgl4 : upd H3 gl (.lst []) gl = some (.lst []) := upd_same
    have D4 := D3.keep (same_upd (o := .lst []) ngl)
    have glbl : gl ≠ bl := fun z => by rw [z, hbl3] at ngl; cases ngl
    generalize upd H3 gl (.lst []) = H4 at hbl4 hgl4 D4 ⊢
    refine ⟨fun σ H' => ∃ y4 y5 y6 y7 y10 y11 gs, σ = [some (.ref rp), some (.ref fi), some (.ref la), some (.ref fo), y4, y5, y6, y7, some (.ref bl), some (.ref gl), y10, y11] ∧ DI H H' rows fi la fo rows.length rows.length rows.length ∧ H' gl = some (.lst gs) ∧ AtL K H' ((goalL rows rows.length rows.length).map intD) gs, ?_, ?_⟩
    · refine ⟨_, rfl, rp, us, rfl, SqL.of (D4.s _ _ hrp), ?_⟩
      refine for_it (walk_enum (K := K) (a := rp) (xs := us)) (fun i σ H' => ∃ y4 y5 y6 y7 y10 y11 gs, σ = [some (.ref rp), some (.ref fi), some (.ref la), some (.ref fo), y4, y5, y6, y7, some (.ref bl), some (.ref gl), y10, y11] ∧ DI H H' rows fi la fo rows.length rows.length rows.length ∧ H' bl = some (.lst ((behL rows rows.length i).map fun n => V.int (n : Nat))) ∧ H' gl = some (.lst gs) ∧ AtL K H' ((goalL rows rows.length i).map intD) gs)
        ⟨_, _, _, _, _, _, [], rfl, D4, hbl4, hgl4, by simp [goalL, AtL]⟩ (fun i σ H' _ q => by obtain ⟨_, _, _, _, _, _, _, _, d, _⟩ := q; exact SqL.of (d.s _ _ hrp)) ?_ ?_
      · rintro i x σ H5 H6 hi ⟨y4, y5, y6, y7, y10, y11, gs, rfl, D5, hbl5, hgl5, hA5⟩ ⟨T0, x1, x2, rfl, nT, rfl, e1, e2⟩
        rw [lus] at hi
        have s6 := same_upd (o := .tup [x1, x2]) nT
        have D6 := D5.keep s6
        have hbl6 := s6 _ _ hbl5
        have hgl6 := s6 _ _ hgl5
        have hA6 := AtL.keep s6 hA5
        obtain ⟨a, sv, ea, ha, hsv⟩ := getR i hi _ D6.s
        have e2 : us[i]? = some x2 := e2
        rw [ea] at e2
        cases e2
        have e1 : some (V.int (i : Nat)) = some x1 := e1
        cases e1
        have hT : upd H5 T0 (.tup [.int (i : Nat), .ref a]) T0 = some (.tup [.int (i : Nat), .ref a]) := upd_same
        generalize upd H5 T0 (.tup [.int (i : Nat), .ref a]) = H6 at D6 ha hT hsv hbl6 hgl6 hA6 ⊢
        have hri := List.getElem?_eq_getElem hi
        generalize rows[i] = rw0 at ha hri hsv
        obtain ⟨sp, sr, rfl, hsp⟩ := fl_kind hsv
        have D6c := D6
        obtain ⟨_, ⟨kf, f1, f2, f3⟩, _, ⟨ko, o1, o2, o3⟩⟩ := D6c
        have lgs := hA6.length
        rw [List.length_map, goalL_len] at lgs
        refine ⟨T0, _, rfl, SqT.of hT, rfl, _, _, rfl, _, _, rfl, a, _, rfl, SqT.of ha, rfl, _, _, rfl, _, _, rfl, _, _, rfl, rfl, rfl, ?_⟩
        refine ⟨_, rfl, _, rfl, _, rfl, _, rfl, rp, fo, bl, us, rows, i, ko, behL rows rows.length i, rfl, D6.s _ _ hrp, AtL.keep D6.s hA, o1, o3, hbl6, behL_len _ _ _, hi, how, ?_⟩
        obtain ⟨g, hg⟩ : ∃ g, g = nextP rows rows.length i (behL rows rows.length i) := ⟨_, rfl⟩
        rw [← hg]
        refine ⟨_, rfl, .inl ⟨rfl, _, SqL.of hbl6⟩, _, rfl, bl, _, _, rfl, rfl, hbl6, sz6' (by rw [List.length_map, behL_len]; omega), ?_⟩
        have D7 := D6.off (ob := .lst ((behL rows rows.length i).map (fun n => V.int (n : Nat)) ++ [.int (g : Nat)])) hbl6 nbl0
        have kp7 := KpL.put (o := .lst ((behL rows rows.length i).map (fun n => V.int (n : Nat)) ++ [.int (g : Nat)])) hbl6
        have hgl7 : upd H6 bl (.lst ((behL rows rows.length i).map (fun n => V.int (n : Nat)) ++ [.int (g : Nat)])) gl = some (.lst gs) := by rw [upd_ne glbl]; exact hgl6
        have hA7 := kyL_at kp7.tup (goals_kab _) hA6
        have hbl7 : upd H6 bl (.lst ((behL rows rows.length i).map (fun n => V.int (n : Nat)) ++ [.int (g : Nat)])) bl = some (.lst ((behL rows rows.length (i + 1)).map fun n => V.int (n : Nat))) := by
          rw [upd_same, behL, List.map_append, ← hg]
          rfl
        have hsp7 := kp7.tup _ _ hsp
        generalize upd H6 bl (.lst ((behL rows rows.length i).map (fun n => V.int (n : Nat)) ++ [.int (g : Nat)])) = H7 at D7 hgl7 hA7 hbl7 hsp7 ⊢
        have egl : goalL rows rows.length (i + 1) = goalL rows rows.length i ++ [goalP rows rows.length i g] := by rw [goalL, ← hg]
        have egp : goalP rows rows.length i g = if kindS rw0.st = "if" then [(firstI rows rows.length (i : Nat) 0).getD g, (firstI rows rows.length (i : Nat) 1).getD g] else if kindS rw0.st = "while" then [(firstI rows rows.length (i : Nat) 0).getD i, g] else [g] := by unfold goalP; rw [hri]
        -- the goal's tuple, and its place in the list
        have fin : ∀ (t : Addr) (l : List Nat) H8 (gs' : List V), Same H7 H8 → H8 t = some (.tup (l.map fun n => V.int (n : Nat))) → goalP rows rows.length i g = l → gs' = gs ++ [.ref t] → DI H (upd H8 gl (.lst gs')) rows fi la fo rows.length rows.length rows.length ∧ upd H8 gl (.lst gs') bl = some (.lst ((behL rows rows.length (i + 1)).map fun n => V.int (n : Nat))) ∧ upd H8 gl (.lst gs') gl = some (.lst (gs ++ [.ref t])) ∧ AtL K (upd H8 gl (.lst gs')) ((goalL rows rows.length (i + 1)).map intD) (gs ++ [.ref t]) := fun t l H8 gs' s8 ht el eg => by
          have hgl8 := s8 _ _ hgl7
          have kp := KpL.put (o := .lst gs') hgl8
          refine ⟨(D7.keep s8).off hgl8 ngl0, by rw [upd_ne glbl.symm]; exact s8 _ _ hbl7, by rw [upd_same, eg], ?_⟩
          rw [egl, List.map_append, el]
          exact AtL.snoc (intD_at (kp.tup _ _ ht)) (kyL_at kp.tup (goals_kab _) (AtL.keep s8 hA7))
        refine ⟨_, rfl, sp, _, _, _, rfl, rfl, SqT.of hsp7, atI_nat (j := 0) rfl, rfl, _, rfl, ?_⟩
        have getf : ∀ (H8 : Hp) (t : Addr) (b : Nat), Same H7 H8 → H8 t = some (.tup ((kyR (i : Nat) b).map kV)) → DGet H8 fi (.ref t) (optV (firstI rows rows.length (i : Nat) b)) := fun H8 t b s8 ht => by
          obtain ⟨_, ⟨kf, f1, f2, f3⟩, _⟩ := D7.keep s8
          have := DGet.t f1 ht
          rw [f3] at this
          exact this
        have isd : ∀ (H8 : Hp), Same H7 H8 → IsD H8 fi := fun H8 s8 => by
          obtain ⟨_, ⟨kf, f1, f2, f3⟩, _⟩ := D7.keep s8
          exact .inr ⟨kf, .inl f1⟩
        have getD : ∀ (o : Option Nat) (d : Nat), (optV o).getD (.int (d : Nat)) = V.int ((o.getD d : Nat) : Int) := fun o d => by cases o <;> rfl
        by_cases c1 : kindS rw0.st = "if"
        · rw [if_pos c1] at egp
          refine iteDT (by rw [c1]) ⟨_, rfl, .inl ⟨rfl, _, SqL.of hgl7⟩, _, rfl, fi, rfl, isd H7 (fun _ _ e => e), _, rfl, by show 2 ≤ sizeLine; decide, fun t1 n1 => ?_⟩
          have s8 := same_upd (o := .tup [V.int (i : Nat), .int 0]) n1
          refine ⟨_, rfl, _, getf _ t1 0 s8 upd_same, ?_⟩
          rw [getD]
          refine ⟨_, rfl, fi, rfl, isd _ s8, _, rfl, by show 2 ≤ sizeLine; decide, fun t2 n2 => ?_⟩
          have s9 := s8.trans (same_upd (o := .tup [V.int (i : Nat), .int 1]) n2)
          refine ⟨_, rfl, _, getf _ t2 1 s9 upd_same, ?_⟩
          rw [getD]
          refine ⟨by show 2 ≤ sizeLine; decide, fun t3 n3 => ?_⟩
          have s10 := s9.trans (same_upd (o := .tup [V.int ((firstI rows rows.length (i : Nat) 0).getD g : Nat), .int ((firstI rows rows.length (i : Nat) 1).getD g : Nat)]) n3)
          refine ⟨gl, _, _, rfl, rfl, s10 _ _ hgl7, sz6' (by omega), ?_⟩
          obtain ⟨h1, h2, h3, h4⟩ := fin t3 _ _ _ s10 upd_same egp rfl
          exact ⟨_, _, _, _, _, _, _, rfl, h1, h2, h3, h4⟩
        · rw [if_neg c1] at egp
          refine iteDF (fun z => c1 (V.str.inj z)) ⟨_, rfl, sp, _, _, _, rfl, rfl, SqT.of hsp7, atI_nat (j := 0) rfl, rfl, _, rfl, ?_⟩
          by_cases c2 : kindS rw0.st = "while"
          · rw [if_pos c2] at egp
            refine iteDT (by rw [c2]) ⟨_, rfl, .inl ⟨rfl, _, SqL.of hgl7⟩, _, rfl, fi, rfl, isd H7 (fun _ _ e => e), _, rfl, by show 2 ≤ sizeLine; decide, fun t1 n1 => ?_⟩
            have s8 := same_upd (o := .tup [V.int (i : Nat), .int 0]) n1
            refine ⟨_, rfl, _, getf _ t1 0 s8 upd_same, ?_⟩
            rw [getD]
            refine ⟨_, rfl, by show 2 ≤ sizeLine; decide, fun t3 n3 => ?_⟩
            have s10 := s8.trans (same_upd (o := .tup [V.int ((firstI rows rows.length (i : Nat) 0).getD i : Nat), .int (g : Nat)]) n3)
            refine ⟨gl, _, _, rfl, rfl, s10 _ _ hgl7, sz6' (by omega), ?_⟩
            obtain ⟨h1, h2, h3, h4⟩ := fin t3 _ _ _ s10 upd_same egp rfl
            exact ⟨_, _, _, _, _, _, _, rfl, h1, h2, h3, h4⟩
          · rw [if_neg c2] at egp
            refine iteDF (fun z => c2 (V.str.inj z)) ⟨_, rfl, .inl ⟨rfl, _, SqL.of hgl7⟩, _, rfl, by show 1 ≤ sizeLine; decide, fun t3 n3 => ?_⟩
            have s10 := same_upd (o := .tup [V.int (g : Nat)]) n3
            refine ⟨gl, _, _, rfl, rfl, s10 _ _ hgl7, sz6' (by omega), ?_⟩
            obtain ⟨h1, h2, h3, h4⟩ := fin t3 _ _ _ s10 upd_same egp rfl
            exact ⟨_, _, _, _, _, _, _, rfl, h1, h2, h3, h4⟩
      · rintro σ H5 ⟨y4, y5, y6, y7, y10, y11, gs, rfl, D5, hbl5, hgl5, hA5⟩
        rw [lus] at hA5
        exact ⟨_, _, _, _, _, _, gs, rfl, D5, hgl5, hA5⟩
    rintro σ H5 ⟨y4, y5, y6, y7, y10, y11, gs, rfl, D5, hgl5, hA5⟩
    refine ⟨_, rfl, gl, gs, rfl, .inl ⟨SqL.of hgl5, fun t nt => ?_⟩⟩
    have s6 := same_upd (o := .tup gs) nt
    refine k _ _ (D5.s.trans s6) ?_
    unfold At
    exact ⟨t, gs, rfl, upd_same, AtL.keep s6 hA5⟩
end
end OS

namespace OS
open PySem PySem.Spec PyProof.Rows L2
/-! ### key_of -/
section
variable {P : Program} {w : World} {K : PySem.W.Frag} {mg : Str → Option Value} {base : Heap}
def spKey (K : PySem.W.Frag) : Sp := fun vs H Q _ => ∃ (v : V) (d : Dt), vs = [v] ∧ At K H d v ∧ kable d ∧ szD d ≤ 4000 ∧ ∀ p H', Same H H' → At K H' (keyD d) (.ref p) → Q (.ref p) H'
theorem ok_key_of {f : Addr} {fd : FuncData} (F : Fun K "key_of" "key_of" s_key_of f fd) (T : Txt K mg) : FnOk P w K mg base CX0 1 f fd ["tree"] (spKey K) := by
  refine F.ok sc_key_of (fun vs H Q E h => ?_) (fun cdv A outer s H vs Q E hr h => ?_)
  · obtain ⟨v, d, rfl, _⟩ := h
    rfl
  · obtain ⟨v, d, rfl, hat, hk, hw, k⟩ := h
    refine ⟨_, (pss_cons (ps_set (i := 1) sc_key_of.nd rfl (.inl rfl) (pe_lst pa_nil))
      (pss_cons (ps_set (i := 2) sc_key_of.nd rfl (.inl rfl) (pe_lst (pa_cons (pv 0) pa_nil)))
      (pss_cons (ps_while PassesOwn.never (pt_truth (pv 2) (by intro _; rfl)) (pss_cons (ps_set (i := 3) sc_key_of.nd rfl (.inl rfl) (pe_bm0 PySem.F.plainAttrs_list PySem.F.slot_list_pop PySem.F.type_list_pop mt_pop (pv 2)))
      (pss_one (ps_if (pt_val (pe_callB call_isi (by rfl) T.isinstance (by decide +kernel) (pa_cons (pv 3) (pa_cons (pe_bltn (v := .ty "tuple") (u := Value.type "tuple") (by rfl) T.tuple (by decide +kernel) rfl) pa_nil)))) (pss_cons (ps_expr (pe_bm PySem.F.plainAttrs_list PySem.F.slot_list_append PySem.F.type_list_append mt_append (pv 1) (pa_cons (pe_tup (pa_cons (pe_callB call_len_seq (by rfl) T.len PySem.boot_len (pa_cons (pv 3) pa_nil)) pa_nil)) pa_nil)))
      (pss_one (ps_expr (pe_bm PySem.F.plainAttrs_list PySem.F.slot_list_extend PySem.F.type_list_extend mt_extT (pv 2) (pa_cons (pv 3) pa_nil))))) (pss_one (ps_expr (pe_bm PySem.F.plainAttrs_list PySem.F.slot_list_append PySem.F.type_list_append mt_append (pv 1) (pa_cons (pv 3) pa_nil))))))))
      (pss_one (ps_ret (pe_callTy call_tuple_of (by rfl) T.tuple (by decide +kernel) (pa_cons (pv 1) pa_nil))))))), ?_⟩
    refine ⟨Nat.zero_le _, fun tl htl => ?_⟩
    refine ⟨_, rfl, by show 1 ≤ sizeLine; decide, fun wl hwl => ?_⟩
    have s1 := same_upd (o := .lst []) htl
    have hne : tl ≠ wl := ne_of_none upd_same hwl
    have hwl0 : H wl = none := s1.free hwl
    have s2 : Same H (upd (upd H tl (.lst [])) wl (.lst [v])) := s1.trans (same_upd hwl)
    refine ⟨fun m σ H' => ∃ (acc st : List Dt) (ps us : List V) (n : Nat) (y : Option V), σ = [some v, some (.ref tl), some (.ref wl), y] ∧ H' tl = some (.lst ps) ∧ H' wl = some (.lst us.reverse) ∧ AtL K H' acc ps ∧ AtL K H' st us ∧ kableL acc ∧ kableL st ∧ acc ++ flatF n st = flatF (szD d) [d] ∧ szDL st ≤ n ∧ m = szDL st ∧ acc.length + szDL st ≤ szD d ∧ Same H H',
      ⟨szD d, [], [d], [], [v], szD d, none, rfl, ?_, upd_same, ?_, ?_, ?_, ?_, rfl, Nat.le_refl _, rfl, ?_, s2⟩, ?_⟩
    · rw [upd_ne hne]
      exact upd_same
    · unfold AtL
      rfl
    · simp only [AtL]
      exact ⟨v, [], rfl, At.keep s2 hat, rfl⟩
    · simp only [kableL]
    · simp only [kableL]
      exact ⟨hk, trivial⟩
    · show 0 + (szD d + 0) ≤ szD d
      omega
    rintro m σ H1 ⟨acc, st, ps, us, n, y, rfl, hT, hW, hA, hS, hka, hks, hfl, hn, rfl, hsz, s3⟩
    have lp := hA.length
    cases st with
    | nil =>
      unfold AtL at hS
      subst hS
      refine ⟨_, rfl, false, .inl ⟨_, SqL.of hW, rfl⟩, ?_⟩
      refine iteF ⟨_, rfl, tl, ps, rfl, .inl ⟨SqL.of hT, fun p hp => ?_⟩⟩
      refine k p _ (s3.trans (same_upd hp)) ?_
      rw [flat_nil, List.append_nil] at hfl
      unfold keyD At
      rw [← hfl]
      exact ⟨p, ps, rfl, upd_same, AtL.keep (same_upd hp) hA⟩
    | cons x r =>
      unfold AtL at hS
      obtain ⟨u, q, rfl, hx, hr2⟩ := hS
      simp only [kableL] at hks
      have px := szD_pos x
      have hn : szD x + szDL r ≤ n := hn
      have hsz : acc.length + (szD x + szDL r) ≤ szD d := hsz
      rw [List.reverse_cons] at hW
      refine ⟨_, rfl, true, .inl ⟨_, SqL.of hW, by simp⟩, ?_⟩
      refine iteT ⟨fun σ' H' => ∃ m', m' < szDL (x :: r) ∧ ∃ (acc st : List Dt) (ps us : List V) (n : Nat) (y : Option V), σ' = [some v, some (.ref tl), some (.ref wl), y] ∧ H' tl = some (.lst ps) ∧ H' wl = some (.lst us.reverse) ∧ AtL K H' acc ps ∧ AtL K H' st us ∧ kableL acc ∧ kableL st ∧ acc ++ flatF n st = flatF (szD d) [d] ∧ szDL st ≤ n ∧ m' = szDL st ∧ acc.length + szDL st ≤ szD d ∧ Same H H', fun σ' H' h => h, ?_⟩
      refine ⟨_, rfl, .inl ⟨rfl, _, SqL.of hW⟩, wl, _, u, rfl, rfl, hW, last_app _ _, ?_⟩
      rw [List.dropLast_concat]
      have hT2 : (upd H1 wl (.lst q.reverse)) tl = some (.lst ps) := by rw [upd_ne hne]; exact hT
      have tk := tup_list (o := .lst q.reverse) hW
      have hx2 := ky_at tk hks.1 hx
      have hr3 := kyL_at tk hks.2 hr2
      have hA2 := kyL_at tk hka hA
      have s4 : Same H (upd H1 wl (.lst q.reverse)) := same_off hwl0 s3
      have hW2 : (upd H1 wl (.lst q.reverse)) wl = some (.lst q.reverse) := upd_same
      generalize upd H1 wl (.lst q.reverse) = H2 at hT2 hx2 hr3 hA2 s4 hW2
      obtain ⟨n', rfl⟩ : ∃ k, n = k + 1 := ⟨n - 1, by omega⟩
      cases hxt : isTup x with
      | true =>
        cases x with
        | tup xs =>
          unfold At at hx2
          obtain ⟨p, vs, rfl, hp, hl⟩ := hx2
          have lv := hl.length
          have kx : kableL xs := by
            have := hks.1
            simp only [kable] at this
            exact this
          have sx : szD (.tup xs) = szDL xs + 1 := by simp only [szD]
          have ex : flatF (n' + 1) (.tup xs :: r) = .tup [.int (xs.length : Nat)] :: flatF n' (xs.reverse ++ r) := rfl
          refine ⟨_, rfl, _, _, .type "tuple", .type "tuple", true, rfl, .ty _, .base (.tup hp), kit_ty (by decide +kernel), true, rfl, iteT ?_⟩
          refine ⟨_, rfl, .inl ⟨rfl, _, SqL.of hT2⟩, _, rfl, p, vs, rfl, .inr (SqT.of hp), by show 1 ≤ sizeLine; decide, fun b hb => ⟨tl, ps, _, rfl, rfl, ?_, sz6' (by omega), ?_⟩⟩
          · exact same_upd hb _ _ hT2
          rw [lv]
          have s5 := same_upd (o := .tup [.int (xs.length : Nat)]) hb
          have hT3 := s5 _ _ hT2
          have hW3 := s5 _ _ hW2
          have hA3 := AtL.keep s5 hA2
          have hr4 := AtL.keep s5 hr3
          have hl3 := AtL.keep s5 hl
          have hb3 : At K (upd H2 b (.tup [.int (xs.length : Nat)])) (.tup [.int (xs.length : Nat)]) (.ref b) := by
            simp only [At, AtL]
            exact ⟨b, _, rfl, upd_same, _, _, rfl, rfl, rfl⟩
          have s6 := s4.trans s5
          generalize upd H2 b (.tup [.int (xs.length : Nat)]) = H3 at hT3 hW3 hA3 hr4 hl3 hb3 s6 s5
          have hp3 := s5 _ _ hp
          have tk3 := tup_list (o := .lst (ps ++ [.ref b])) hT3
          have hA4 := kyL_at tk3 hka hA3
          have hb4 := ky_at tk3 (by simp [kable, kableL]) hb3
          have hr5 := kyL_at tk3 hks.2 hr4
          have hl5 := kyL_at tk3 kx hl3
          have hp5 := tk3 _ _ hp3
          have s7 := same_off (o := .lst (ps ++ [.ref b])) htl s6
          have hT4 : upd H3 tl (.lst (ps ++ [.ref b])) tl = some (.lst (ps ++ [.ref b])) := upd_same
          have hW4 : upd H3 tl (.lst (ps ++ [.ref b])) wl = some (.lst q.reverse) := by rw [upd_ne hne.symm]; exact hW3
          generalize upd H3 tl (.lst (ps ++ [.ref b])) = H4 at hA4 hb4 hr5 hl5 hp5 s7 hT4 hW4
          have lq := hr5.length
          have lr := szDL_len r
          have lx := szDL_len xs
          refine ⟨_, rfl, .inl ⟨rfl, _, SqL.of hW4⟩, _, rfl, wl, p, _, _, rfl, rfl, hW4, hp5, ?_, ?_⟩
          · rw [List.length_reverse]
            exact sz6 (by omega)
          have tk5 := tup_list (o := .lst (q.reverse ++ vs)) hW4
          refine ⟨szDL (xs.reverse ++ r), ?_, acc ++ [.tup [.int (xs.length : Nat)]], xs.reverse ++ r, ps ++ [.ref b], vs.reverse ++ q, n', _, rfl, ?_, ?_, AtL.snoc (ky_at tk5 (by simp [kable, kableL]) hb4) (kyL_at tk5 hka hA4), AtL.app (AtL.rev (kyL_at tk5 kx hl5)) (kyL_at tk5 hks.2 hr5), ?_, ?_, ?_, ?_, rfl, ?_, same_off hwl0 s7⟩
          · rw [szDL_app, szDL_rev]
            show _ < szD (.tup xs) + szDL r
            omega
          · rw [upd_ne hne]
            exact hT4
          · rw [upd_same, List.reverse_append, List.reverse_reverse]
          · exact kableL_app.mpr ⟨hka, by simp [kable, kableL]⟩
          · exact kableL_app.mpr ⟨kableL_rev kx, hks.2⟩
          · rw [ex] at hfl
            rw [List.append_assoc]
            exact hfl
          · rw [szDL_app, szDL_rev]
            omega
          · rw [szDL_app, szDL_rev, List.length_append, List.length_singleton]
            omega
        | _ => cases hxt
      | false =>
        have fin : ∀ H3, H3 = upd H2 tl (.lst (ps ++ [u])) → ∃ m', m' < szDL (x :: r) ∧ ∃ (acc st : List Dt) (ps us : List V) (n : Nat) (y : Option V), [some v, some (.ref tl), some (.ref wl), some u] = [some v, some (.ref tl), some (.ref wl), y] ∧ H3 tl = some (.lst ps) ∧ H3 wl = some (.lst us.reverse) ∧ AtL K H3 acc ps ∧ AtL K H3 st us ∧ kableL acc ∧ kableL st ∧ acc ++ flatF n st = flatF (szD d) [d] ∧ szDL st ≤ n ∧ m' = szDL st ∧ acc.length + szDL st ≤ szD d ∧ Same H H3 := by
          rintro H3 rfl
          have tk3 := tup_list (o := .lst (ps ++ [u])) hT2
          refine ⟨szDL r, ?_, acc ++ [x], r, ps ++ [u], q, n', _, rfl, upd_same, ?_, AtL.snoc (ky_at tk3 hks.1 hx2) (kyL_at tk3 hka hA2), kyL_at tk3 hks.2 hr3, ?_, hks.2, ?_, by omega, rfl, ?_, same_off htl s4⟩
          · show szDL r < szD x + szDL r
            omega
          · rw [upd_ne hne.symm]
            exact hW2
          · exact kableL_app.mpr ⟨hka, by simp only [kableL]; exact ⟨hks.1, trivial⟩⟩
          · rw [flat_leaf hxt] at hfl
            rw [List.append_assoc]
            exact hfl
          · rw [List.length_append, List.length_singleton]
            omega
        rcases At.kind hks.1 hxt hx2 with ⟨rfl, rfl⟩ | ⟨i, rfl, rfl⟩ | ⟨z, rfl, rfl⟩
        · refine ⟨_, rfl, _, _, .type "NoneType", .type "tuple", false, rfl, .ty _, .base .non, kit_ty (by decide +kernel), false, rfl, iteF ?_⟩
          exact ⟨_, rfl, .inl ⟨rfl, _, SqL.of hT2⟩, _, rfl, tl, _, _, rfl, rfl, hT2, sz6' (by omega), fin _ rfl⟩
        · refine ⟨_, rfl, _, _, .type "int", .type "tuple", false, rfl, .ty _, .base (.int i), kit_ty (by decide +kernel), false, rfl, iteF ?_⟩
          exact ⟨_, rfl, .inl ⟨rfl, _, SqL.of hT2⟩, _, rfl, tl, _, _, rfl, rfl, hT2, sz6' (by omega), fin _ rfl⟩
        · refine ⟨_, rfl, _, _, .type "str", .type "tuple", false, rfl, .ty _, .base (.str z), kit_ty (by decide +kernel), false, rfl, iteF ?_⟩
          exact ⟨_, rfl, .inl ⟨rfl, _, SqL.of hT2⟩, _, rfl, tl, _, _, rfl, rfl, hT2, sz6' (by omega), fin _ rfl⟩
end
/-! ### numbered -/
noncomputable instance decDt : DecidableEq Dt := fun a b => Classical.propDecidable _
/-- keys with their numbers -/
def tagF : Nat → List Dt → List (Dt × Int)
  | _, [] => []
  | n, d :: r => (d, (n : Int)) :: tagF (n + 1) r
theorem tag_len : ∀ (l : List Dt) (n : Nat), (tagF n l).length = l.length
  | [], _ => rfl
  | d :: r, n => congrArg (· + 1) (tag_len r (n + 1))
theorem tag_snoc (d : Dt) : ∀ (l : List Dt) (n : Nat), tagF n (l ++ [d]) = tagF n l ++ [(d, ((n + l.length : Nat) : Int))]
  | [], n => rfl
  | e :: r, n => by
    show (e, (n : Int)) :: tagF (n + 1) (r ++ [d]) = (e, (n : Int)) :: (tagF (n + 1) r ++ [(d, ((n + (r.length + 1) : Nat) : Int))])
    rw [tag_snoc d r (n + 1), show n + 1 + r.length = n + (r.length + 1) by omega]
theorem valI_tag {d : Dt} (hd : kable d) : ∀ (l : List Dt) (n : Nat), kableL l → valI (tagF n l) d = if d ∈ l then some ((n + l.idxOf d : Nat) : Int) else none
  | [], n, _ => by
    rw [if_neg (by simp)]
    rfl
  | e :: r, n, hk => by
    simp only [kableL] at hk
    have ih := valI_tag hd r (n + 1) hk.2
    by_cases c : e = d
    · subst c
      rw [if_pos List.mem_cons_self]
      unfold valI tagF
      rw [List.find?_cons, decide_eq_true rfl, List.idxOf_cons, beq_self_eq_true e]
      rfl
    · have c2 : ¬ nkD e = nkD d := fun q => c (nk_inj hk.1 hd q)
      have e1 : valI (tagF n (e :: r)) d = valI (tagF (n + 1) r) d := by
        show (List.find? _ ((e, (n : Int)) :: tagF (n + 1) r)).map _ = _
        rw [List.find?_cons, decide_eq_false c2]
        rfl
      rw [e1, ih, List.idxOf_cons, beq_eq_false_iff_ne.mpr c]
      by_cases m : d ∈ r
      · rw [if_pos m, if_pos (List.mem_cons_of_mem _ m)]
        simp only [cond_false]
        congr 2
        omega
      · rw [if_neg m, if_neg (fun q => by
          rcases List.mem_cons.mp q with q | q
          · exact c q.symm
          · exact m q)]
theorem firsts_snoc (k : Dt) : ∀ (l acc : List Dt), firsts acc (l ++ [k]) = if k ∈ firsts acc l then firsts acc l else firsts acc l ++ [k]
  | [], acc => rfl
  | x :: r, acc => by
    show firsts (if x ∈ acc then acc else acc ++ [x]) (r ++ [k]) = _
    rw [firsts_snoc k r]
    rfl
theorem firsts_from : ∀ (l acc : List Dt) (x : Dt), x ∈ firsts acc l → x ∈ acc ∨ x ∈ l
  | [], acc, x, h => .inl h
  | y :: r, acc, x, h => by
    rcases firsts_from r _ x h with h | h
    · split at h
      · exact .inl h
      · rcases List.mem_append.mp h with h | h
        · exact .inl h
        · rw [List.mem_singleton.mp h]
          exact .inr List.mem_cons_self
    · exact .inr (List.mem_cons_of_mem _ h)
def Keys (K : PySem.W.Frag) (H : Hp) (ks : List Dt) (vs : List V) : Prop := vs.length = ks.length ∧ ∀ (i : Nat) (d : Dt), ks[i]? = some d → ∃ b, vs[i]? = some (.ref b) ∧ Ky K H d b
theorem Keys.keep {K : PySem.W.Frag} {H H' : Hp} {ks : List Dt} {vs : List V} (k : ∀ b xs, H b = some (.tup xs) → H' b = some (.tup xs)) (h : Keys K H ks vs) : Keys K H' ks vs :=
  ⟨h.1, fun i d e => let ⟨b, e1, e2⟩ := h.2 i d e; ⟨b, e1, e2.keep k⟩⟩
theorem Keys.kable {K : PySem.W.Frag} {H : Hp} {ks : List Dt} {vs : List V} (h : Keys K H ks vs) : ∀ d ∈ ks, OS.kable d := fun d hd => by
  obtain ⟨i, hi⟩ := List.mem_iff_getElem?.mp hd
  obtain ⟨b, _, k⟩ := h.2 i d hi
  exact k.ok
section
variable {P : Program} {w : World} {K : PySem.W.Frag} {mg : Str → Option Value} {base : Heap}
def spNum (K : PySem.W.Frag) : Sp := fun vs H Q _ => ∃ (a : Addr) (us : List V) (ks : List Dt), vs = [.ref a] ∧ H a = some (.lst us) ∧ Keys K H ks us ∧ ks.length ≤ 1000 ∧ ∀ p H', Same H H' → H' p = some (.lst ((numb ks).map fun n => V.int (n : Nat))) → Q (.ref p) H'
theorem ok_numbered {f : Addr} {fd : FuncData} (F : Fun K "numbered" "numbered" s_numbered f fd) (T : Txt K mg) : FnOk P w K mg base CX0 1 f fd ["keys"] (spNum K) := by
  refine F.ok sc_numbered (fun vs H Q E h => ?_) (fun cdv A outer s H vs Q E hr h => ?_)
  · obtain ⟨a, us, ks, rfl, _⟩ := h
    rfl
  · obtain ⟨a, us, ks, rfl, ha, hk, hl, k⟩ := h
    have hu := hr.units
    refine ⟨_, (pss_cons (ps_set (i := 1) sc_numbered.nd rfl (.inr rfl) pe_dnewN)
      (pss_cons (ps_for PassesOwn.never rfl (pi_list (pv 0)) (pg_name (i := 2) sc_numbered.nd rfl (.inl rfl)) (pss_one (ps_expr (pe_setdN (by exact hr.units) (pv 1) (pv 2) (pe_callB call_lenN (by rfl) T.len PySem.boot_len (pa_cons (pv 1) pa_nil)) ⟨rfl, rfl, rfl, rfl⟩))))
      (pss_one (ps_ret (pe_lc (own := [("key", 2)]) (g := gName 2) (by rfl) sc_numbered.nd (pi_list (pv 0)) (blkOk_by (N := ["keys", "numbers", "key"]) (sc := defScope s_numbered) (by decide +kernel)) (fun _ _ _ _ _ => pg_name (i := 2) sc_numbered.nd rfl (by first | exact Or.inl rfl | exact Or.inr rfl)) (fun _ _ _ _ _ => pts_nil) (fun _ _ _ _ _ => (pe_dgetNK (P := P) (w := w) (K := K) rfl rfl rfl (by exact hr.units) (pv 1) (pv 2) (fun _ _ => rfl)))))))), ?_⟩
    intro D nD sD
    have d0 : DkN P w K (upd H D (dkN P w D [])) D (tagF 0 (firsts [] (ks.take 0))) := DkN.new sD
    have s1 := same_upd (o := dkN P w D []) nD
    have ha1 := s1 _ _ ha
    have hk1 := hk.keep fun b xs e => s1 b _ e
    have naD : a ≠ D := ne_of_none ha nD
    have hkb := hk.kable
    have fl : ∀ i, (firsts [] (ks.take i)).length ≤ 1000 := fun i => by
      have := firsts_len (ks.take i) []
      rw [List.length_nil, List.length_take] at this
      omega
    have fk : ∀ i, kableL (firsts [] (ks.take i)) := fun i => kableL_of fun d hd => by
      rcases firsts_from _ _ _ hd with h | h
      · cases h
      · exact hkb d (List.mem_of_mem_take h)
    have hkt : ∀ H' : Hp, (∀ c, c ≠ D → H' c = upd H D (dkN P w D []) c) → ∀ c xs, upd H D (dkN P w D []) c = some (.tup xs) → H' c = some (.tup xs) := fun H' hO c xs e => by
      by_cases cd : c = D
      · rw [cd, upd_same] at e
        cases e
      · exact (hO c cd).trans e
    refine ⟨_, rfl, a, rfl, ⟨_, SqL.of ha1⟩, for_list (K := K) (a := a) (xs := us) (fun i σ H' => ∃ y : Option V, σ = [some (.ref a), some (.ref D), y] ∧ DkN P w K H' D (tagF 0 (firsts [] (ks.take i))) ∧ ∀ c, c ≠ D → H' c = upd H D (dkN P w D []) c)
      ⟨none, rfl, d0, fun _ _ => rfl⟩ (fun i σ H' _ h => ?_) ?_ ?_⟩
    · obtain ⟨_, _, _, hO⟩ := h
      exact SqL.of ((hO _ naD).trans ha1)
    · rintro i u σ H' hi ⟨y, rfl, hD, hO⟩
      have hi2 : i < ks.length := by
        rw [← hk.1]
        exact (List.getElem?_eq_some_iff.mp hi).1
      obtain ⟨b, e1, e2⟩ := hk1.2 i ks[i] (List.getElem?_eq_getElem hi2)
      rw [hi] at e1
      have e1 := Option.some.inj e1
      subst e1
      have et : ks.take (i + 1) = ks.take i ++ [ks[i]] := by rw [List.take_add_one, List.getElem?_eq_getElem hi2]; rfl
      have vt := valI_tag (hkb _ (List.getElem_mem hi2)) (firsts [] (ks.take i)) 0 (fk i)
      have e3 := e2.keep (hkt H' hO)
      refine ⟨_, rfl, D, _, rfl, hD, _, rfl, _, rfl, D, _, rfl, hD, _, ks[i], b, _, hD, rfl, e3, rfl, ?_, fun m hm => ?_, fun hn H4 hD4 hO4 => ?_⟩
      · rw [tag_len]
        exact Nat.lt_of_le_of_lt (fl i) (by decide)
      · rw [vt] at hm
        by_cases c : ks[i] ∈ firsts [] (ks.take i)
        · refine ⟨_, rfl, ?_, hO⟩
          rw [et, firsts_snoc, if_pos c]
          exact hD
        · rw [if_neg c] at hm
          cases hm
      · rw [vt] at hn
        by_cases c : ks[i] ∈ firsts [] (ks.take i)
        · rw [if_pos c] at hn
          cases hn
        · refine ⟨_, rfl, ?_, fun x hx => (hO4 x hx).trans (hO x hx)⟩
          rw [et, firsts_snoc, if_neg c, tag_snoc, Nat.zero_add]
          rw [tag_len] at hD4
          exact hD4
    · rintro σ H' ⟨y, rfl, hD, hO⟩
      have eu : ks.take us.length = ks := by rw [hk.1, List.take_length]
      rw [eu] at hD
      have fk0 := fk us.length
      rw [eu] at fk0
      have sH : Same H H' := fun c o e => by
        have hc : c ≠ D := ne_of_none e nD
        rw [hO c hc, upd_ne hc]
        exact e
      refine ⟨_, rfl, a, rfl, ⟨_, SqL.of (sH _ _ ha)⟩, fun L nL => ?_⟩
      have nLD : D ≠ L := fun q => by
        obtain ⟨⟨_, e, _⟩, _⟩ := hD
        rw [q, nL] at e
        cases e
      refine lc_list (K := K) (a := a) (xs := us) (fun i H2 => H2 L = some (.lst (((numb ks).map fun n => V.int (n : Nat)).take i)) ∧ ∀ c, c ≠ L → H2 c = H' c)
        ⟨upd_same, fun c hc => upd_ne hc⟩ (fun i H2 _ q => SqL.of ((q.2 _ (ne_of_none (sH _ _ ha) nL)).trans (sH _ _ ha))) ?_ ?_
      · rintro i u H2 hi ⟨hL, hO2⟩
        have hi2 : i < ks.length := by
          rw [← hk.1]
          exact (List.getElem?_eq_some_iff.mp hi).1
        obtain ⟨b, e1, e2⟩ := hk1.2 i ks[i] (List.getElem?_eq_getElem hi2)
        rw [hi] at e1
        have e1 := Option.some.inj e1
        subst e1
        have tk2 : ∀ c xs, H' c = some (.tup xs) → H2 c = some (.tup xs) := fun c xs e => by
          have hc : c ≠ L := ne_of_none e nL
          rw [hO2 c hc]
          exact e
        have e3 := (e2.keep (hkt H' hO)).keep tk2
        have hD2 := hD.keep tk2 fun u e => (hO2 D nLD).trans e
        have vt := valI_tag (hkb _ (List.getElem_mem hi2)) (firsts [] ks) 0 fk0
        rw [if_pos (firsts_mem ks [] _ (List.getElem_mem hi2)), Nat.zero_add] at vt
        refine ⟨rfl, iteT (B := True) ?_⟩
        refine ⟨_, rfl, _, rfl, D, _, ks[i], b, _, rfl, hD2, rfl, e3, vt, _, hL, ?_, ?_, ?_⟩
        · rw [List.length_take, List.length_map, numb_len]
          exact sz6' (by omega)
        · rw [upd_same, List.take_add_one, List.getElem?_map]
          have : (numb ks)[i]? = some ((firsts [] ks).idxOf ks[i]) := by
            unfold numb
            rw [List.getElem?_map, List.getElem?_eq_getElem hi2]
            rfl
          rw [this]
          rfl
        · intro c hc
          rw [upd_ne hc]
          exact hO2 c hc
      · rintro H2 ⟨hL, hO2⟩
        refine k L H2 (fun c o e => ?_) ?_
        · rw [hO2 c (ne_of_none (sH _ _ e) nL)]
          exact sH _ _ e
        · rw [hL, List.take_of_length_le]
          rw [List.length_map, numb_len, hk.1]
          exact Nat.le_refl _
end
theorem flat_low : ∀ (n : Nat) (st : List Dt), kableL st → ∀ d ∈ flatF n st, kable d ∧ dep d ≤ 1
  | 0, _, _, d, h => by cases h
  | _ + 1, [], _, d, h => by cases h
  | n + 1, .tup xs :: r, hk, d, h => by
    simp only [kableL, kable] at hk
    rcases List.mem_cons.mp h with e | e
    · subst e
      simp [kable, kableL, dep, depL]
    · exact flat_low n (xs.reverse ++ r) (kableL_app.mpr ⟨kableL_rev hk.1, hk.2⟩) d e
  | n + 1, .non :: r, hk, d, h => by
    simp only [kableL] at hk
    rcases List.mem_cons.mp h with e | e
    · subst e
      simp [kable, dep]
    · exact flat_low n r hk.2 d e
  | n + 1, .bl b :: r, hk, d, h => by simp [kableL, kable] at hk
  | n + 1, .int i :: r, hk, d, h => by
    simp only [kableL] at hk
    rcases List.mem_cons.mp h with e | e
    · subst e
      simp [kable, dep]
    · exact flat_low n r hk.2 d e
  | n + 1, .str x :: r, hk, d, h => by
    simp only [kableL] at hk
    rcases List.mem_cons.mp h with e | e
    · subst e
      simp [kable, dep]
    · exact flat_low n r hk.2 d e
  | n + 1, .lst xs :: r, hk, d, h => by simp [kableL, kable] at hk
theorem depL_le {n : Nat} : ∀ {l : List Dt}, (∀ d ∈ l, dep d ≤ n) → depL l ≤ n
  | [], _ => by simp [depL]
  | x :: r, h => by
    have h1 := h x List.mem_cons_self
    have h2 := depL_le (l := r) fun d hd => h d (List.mem_cons_of_mem _ hd)
    unfold depL
    omega
theorem keyD_ok {d : Dt} (hk : kable d) : kable (keyD d) ∧ dep (keyD d) ≤ 2 := by
  have f := flat_low (szD d) [d] (by simp [kableL, hk])
  unfold keyD
  constructor
  · simp only [kable]
    exact kableL_of fun x hx => (f x hx).1
  · have := depL_le fun x hx => (f x hx).2
    unfold dep
    omega
theorem Keys.snoc {K : PySem.W.Frag} {H : Hp} {ks : List Dt} {vs : List V} {d : Dt} {b : Addr} (h : Keys K H ks vs) (k : Ky K H d b) : Keys K H (ks ++ [d]) (vs ++ [.ref b]) := by
  refine ⟨by rw [List.length_append, List.length_append, h.1]; rfl, fun i e he => ?_⟩
  by_cases c : i < ks.length
  · rw [List.getElem?_append_left c] at he
    obtain ⟨a, e1, e2⟩ := h.2 i e he
    exact ⟨a, by rw [List.getElem?_append_left (by rw [h.1]; exact c)]; exact e1, e2⟩
  · have hi : i < ks.length + 1 := by
      have := (List.getElem?_eq_some_iff.mp he).1
      rw [List.length_append, List.length_singleton] at this
      exact this
    have ei : i = ks.length := by omega
    subst ei
    rw [List.getElem?_append_right (Nat.le_refl _), Nat.sub_self] at he
    have he := Option.some.inj he
    subst he
    exact ⟨b, by rw [List.getElem?_append_right (by rw [h.1]; exact Nat.le_refl _), h.1, Nat.sub_self]; rfl, k⟩

end OS

namespace OS
open PySem PySem.Spec PyProof.Rows L2
/-! ### values of rows -/
def placeOf (k : Str) : Option Int := if k = "message" then some 4 else if k = "set" then some 3 else if k = "if" then some 2 else if k = "while" then some 2 else none
structure PlaceTxt (K : PySem.W.Frag) (w : World) (mg : Str → Option Value) : Prop where
  ex : ∃ d es n, mg "VALUE_PLACES" = some (.ref d) ∧ KDict K w d es n ∧ (∀ z, placeOf z = none → PySem.W.nsIn K d z = some none) ∧ ∀ z k, placeOf z = some k → ∃ t, PySem.W.nsIn K d z = some (some (.int k t))
def valD : Stm → Dt
  | .msg _ _ _ v _ => v.dt
  | .set _ _ v => v.dt
  | .ask _ _ => .non
  | .call _ _ => .non
  | .ite _ v _ _ => v.dt
  | .whl _ v _ => v.dt
theorem valD_kable (s : Stm) : kable (valD s) := by
  cases s <;> simp only [valD, val_kable] <;> simp only [kable]
/-- all values in it -/
def valOk (Pv : Val → Prop) : Stm → Prop
  | .msg _ _ _ v _ => Pv v
  | .set _ _ v => Pv v
  | .ask _ _ => True
  | .call _ _ => True
  | .ite _ v _ _ => Pv v
  | .whl _ v _ => Pv v
mutual
def avS (Pv : Val → Prop) : Stm → Prop
  | .msg _ _ _ v _ => Pv v
  | .set _ _ v => Pv v
  | .ask _ _ => True
  | .call _ _ => True
  | .ite _ v y n => Pv v ∧ avB Pv y ∧ avB Pv n
  | .whl _ v b => Pv v ∧ avB Pv b
def avB (Pv : Val → Prop) : List Stm → Prop
  | [] => True
  | s :: r => avS Pv s ∧ avB Pv r
end
theorem avB_app {Pv : Val → Prop} : ∀ {a b : List Stm}, avB Pv a → avB Pv b → avB Pv (a ++ b)
  | [], b, _, h => h
  | s :: r, b, h1, h2 => by
    simp only [avB] at h1
    simp only [List.cons_append, avB]
    exact ⟨h1.1, avB_app h1.2 h2⟩
mutual
theorem av_exS {Pv : Val → Prop} {cf : CallF} (hc : ∀ m q es, avB Pv (cf m q es)) : ∀ (s : Stm) (m : Str → Str), avS Pv s → avB Pv (exS cf m s)
  | .call q es, m, h => by simp only [exS]; exact hc m q es
  | .ite e v y n, m, h => by
    simp only [avS] at h
    simp only [exS, avB, avS, and_true]
    exact ⟨h.1, av_exB hc y m h.2.1, av_exB hc n m h.2.2⟩
  | .whl e v b, m, h => by
    simp only [avS] at h
    simp only [exS, avB, avS, and_true]
    exact ⟨h.1, av_exB hc b m h.2⟩
  | .msg _ _ _ _ _, m, h => by simp only [avS] at h; simp only [exS, avB, avS, and_true]; exact h
  | .set _ _ _, m, h => by simp only [avS] at h; simp only [exS, avB, avS, and_true]; exact h
  | .ask _ _, m, h => by simp only [exS, avB, avS, and_true]
theorem av_exB {Pv : Val → Prop} {cf : CallF} (hc : ∀ m q es, avB Pv (cf m q es)) : ∀ (b : List Stm) (m : Str → Str), avB Pv b → avB Pv (exB cf m b)
  | [], m, h => by simp only [exB, avB]
  | s :: r, m, h => by
    simp only [avB] at h
    simp only [exB]
    exact avB_app (av_exS hc s m h.1) (av_exB hc r m h.2)
end
theorem av_call {Pv : Val → Prop} {parts : List Prt} (h : ∀ p ∈ parts, avB Pv p.body) : ∀ (n : Nat) (m : Str → Str) (q : Str) (es : List Str), avB Pv (callN parts n m q es)
  | 0, m, q, es => by simp only [callN, avB]
  | n + 1, m, q, es => by
    simp only [callN]
    cases hf : findP parts q with
    | none => simp only [avB]
    | some p => exact av_exB (av_call h n) p.body _ (h p (List.mem_of_find?_eq_some hf))
mutual
theorem av_numS {Pv : Val → Prop} : ∀ (s : Stm) (pos : Nat) (o : Int) (br : Nat), avS Pv s → ∀ r ∈ numS pos o br s, valOk Pv r.st
  | .ite e v y n, pos, o, br, h, r, hr => by
    simp only [avS] at h
    simp only [numS] at hr
    rcases List.mem_cons.mp hr with rfl | hr
    · exact h.1
    · rcases List.mem_append.mp hr with hr | hr
      · exact av_numB y _ _ _ h.2.1 r hr
      · exact av_numB n _ _ _ h.2.2 r hr
  | .whl e v b, pos, o, br, h, r, hr => by
    simp only [avS] at h
    simp only [numS] at hr
    rcases List.mem_cons.mp hr with rfl | hr
    · exact h.1
    · exact av_numB b _ _ _ h.2 r hr
  | .msg _ _ _ _ _, pos, o, br, h, r, hr => by simp only [avS] at h; simp only [numS, List.mem_singleton] at hr; subst hr; exact h
  | .set _ _ _, pos, o, br, h, r, hr => by simp only [avS] at h; simp only [numS, List.mem_singleton] at hr; subst hr; exact h
  | .ask _ _, pos, o, br, h, r, hr => by simp only [numS, List.mem_singleton] at hr; subst hr; exact trivial
  | .call _ _, pos, o, br, h, r, hr => by simp only [numS, List.mem_singleton] at hr; subst hr; exact trivial
theorem av_numB {Pv : Val → Prop} : ∀ (b : List Stm) (pos : Nat) (o : Int) (br : Nat), avB Pv b → ∀ r ∈ numB pos o br b, valOk Pv r.st
  | [], pos, o, br, h, r, hr => by simp only [numB] at hr; cases hr
  | s :: t, pos, o, br, h, r, hr => by
    simp only [avB] at h
    simp only [numB] at hr
    rcases List.mem_append.mp hr with hr | hr
    · exact av_numS s _ _ _ h.1 r hr
    · exact av_numB t _ _ _ h.2 r hr
end
mutual
theorem no_callS {cf : CallF} (hc : ∀ m q es, ∀ pos o br, ∀ r ∈ numB pos o br (cf m q es), isCall r.st = false) : ∀ (s : Stm) (m : Str → Str) (pos : Nat) (o : Int) (br : Nat), ∀ r ∈ numB pos o br (exS cf m s), isCall r.st = false
  | .call q es, m, pos, o, br, r, hr => by simp only [exS] at hr; exact hc m q es _ _ _ r hr
  | .ite e v y n, m, pos, o, br, r, hr => by
    simp only [exS, numB, numS, List.append_nil] at hr
    rcases List.mem_cons.mp hr with rfl | hr
    · rfl
    · rcases List.mem_append.mp hr with hr | hr
      · exact no_callB hc y m _ _ _ r hr
      · exact no_callB hc n m _ _ _ r hr
  | .whl e v b, m, pos, o, br, r, hr => by
    simp only [exS, numB, numS, List.append_nil] at hr
    rcases List.mem_cons.mp hr with rfl | hr
    · rfl
    · exact no_callB hc b m _ _ _ r hr
  | .msg _ _ _ _ _, m, pos, o, br, r, hr => by simp only [exS, numB, numS, List.append_nil, List.mem_singleton] at hr; subst hr; rfl
  | .set _ _ _, m, pos, o, br, r, hr => by simp only [exS, numB, numS, List.append_nil, List.mem_singleton] at hr; subst hr; rfl
  | .ask _ _, m, pos, o, br, r, hr => by simp only [exS, numB, numS, List.append_nil, List.mem_singleton] at hr; subst hr; rfl
theorem no_callB {cf : CallF} (hc : ∀ m q es, ∀ pos o br, ∀ r ∈ numB pos o br (cf m q es), isCall r.st = false) : ∀ (b : List Stm) (m : Str → Str) (pos : Nat) (o : Int) (br : Nat), ∀ r ∈ numB pos o br (exB cf m b), isCall r.st = false
  | [], m, pos, o, br, r, hr => by simp only [exB, numB] at hr; cases hr
  | s :: t, m, pos, o, br, r, hr => by
    simp only [exB] at hr
    rw [numB_app] at hr
    rcases List.mem_append.mp hr with hr | hr
    · exact no_callS hc s m _ _ _ r hr
    · exact no_callB hc t m _ _ _ r hr
end
theorem no_call {parts : List Prt} : ∀ (n : Nat) (m : Str → Str) (q : Str) (es : List Str) (pos : Nat) (o : Int) (br : Nat), ∀ r ∈ numB pos o br (callN parts n m q es), isCall r.st = false
  | 0, m, q, es, pos, o, br, r, hr => by simp only [callN, numB] at hr; cases hr
  | n + 1, m, q, es, pos, o, br, r, hr => by
    simp only [callN] at hr
    cases hf : findP parts q with
    | none => rw [hf] at hr; simp only [numB] at hr; cases hr
    | some p => rw [hf] at hr; exact no_callB (no_call n) p.body _ _ _ _ r hr
theorem rows_no_call (t : Tree) : ∀ r ∈ rowsT t, isCall r.st = false := fun r hr => no_callB (no_call _) t.body _ _ _ _ r hr
theorem rows_val {Pv : Val → Prop} {t : Tree} (h : ∀ p ∈ t.parts, avB Pv p.body) (hb : avB Pv t.body) : ∀ r ∈ rowsT t, valOk Pv r.st := fun r hr => av_numB _ _ _ _ (av_exB (av_call h _) t.body _ hb) r hr
mutual
theorem ow_numS : ∀ (s : Stm) (pos : Nat) (o : Int) (br : Nat) (i : Nat) (r : Row), (numS pos o br s)[i]? = some r → r.ow = o ∨ ∃ k : Nat, r.ow = ((k : Nat) : Int) ∧ k < pos + i
  | .ite e v y n, pos, o, br, i, r, h => by
    simp only [numS] at h
    cases i with
    | zero =>
      simp only [List.getElem?_cons_zero, Option.some.injEq] at h
      subst h
      exact .inl rfl
    | succ i =>
      rw [List.getElem?_cons_succ] at h
      by_cases c : i < (numB (pos + 1) (pos : Nat) 0 y).length
      · rw [List.getElem?_append_left c] at h
        rcases ow_numB y _ _ _ _ _ h with h | ⟨k, h1, h2⟩
        · exact .inr ⟨pos, h, by omega⟩
        · exact .inr ⟨k, h1, by omega⟩
      · rw [List.getElem?_append_right (by omega)] at h
        rw [numB_len] at h c
        rcases ow_numB n _ _ _ _ _ h with h | ⟨k, h1, h2⟩
        · exact .inr ⟨pos, h, by omega⟩
        · exact .inr ⟨k, h1, by omega⟩
  | .whl e v b, pos, o, br, i, r, h => by
    simp only [numS] at h
    cases i with
    | zero =>
      simp only [List.getElem?_cons_zero, Option.some.injEq] at h
      subst h
      exact .inl rfl
    | succ i =>
      rw [List.getElem?_cons_succ] at h
      rcases ow_numB b _ _ _ _ _ h with h | ⟨k, h1, h2⟩
      · exact .inr ⟨pos, h, by omega⟩
      · exact .inr ⟨k, h1, by omega⟩
  | .msg _ _ _ _ _, pos, o, br, i, r, h => by
    simp only [numS] at h
    have := List.mem_of_getElem? h
    rw [List.mem_singleton] at this
    subst this
    exact .inl rfl
  | .set _ _ _, pos, o, br, i, r, h => by
    simp only [numS] at h
    have := List.mem_of_getElem? h
    rw [List.mem_singleton] at this
    subst this
    exact .inl rfl
  | .ask _ _, pos, o, br, i, r, h => by
    simp only [numS] at h
    have := List.mem_of_getElem? h
    rw [List.mem_singleton] at this
    subst this
    exact .inl rfl
  | .call _ _, pos, o, br, i, r, h => by
    simp only [numS] at h
    have := List.mem_of_getElem? h
    rw [List.mem_singleton] at this
    subst this
    exact .inl rfl
theorem ow_numB : ∀ (b : List Stm) (pos : Nat) (o : Int) (br : Nat) (i : Nat) (r : Row), (numB pos o br b)[i]? = some r → r.ow = o ∨ ∃ k : Nat, r.ow = ((k : Nat) : Int) ∧ k < pos + i
  | [], pos, o, br, i, r, h => by simp [numB] at h
  | s :: t, pos, o, br, i, r, h => by
    simp only [numB] at h
    by_cases c : i < (numS pos o br s).length
    · rw [List.getElem?_append_left c] at h
      exact ow_numS s _ _ _ _ _ h
    · rw [List.getElem?_append_right (by omega)] at h
      rw [numS_len] at h c
      rcases ow_numB t _ _ _ _ _ h with h | ⟨k, h1, h2⟩
      · exact .inl h
      · exact .inr ⟨k, h1, by omega⟩
end
theorem rows_ow (t : Tree) : OwOk (rowsT t) := fun i r h => by
  rcases ow_numB _ _ _ _ _ _ h with h | ⟨k, h1, h2⟩
  · exact .inl h
  · exact .inr ⟨k, h1, by omega⟩
section
variable {P : Program} {w : World} {K : PySem.W.Frag} {mg : Str → Option Value} {base : Heap}
def spVof (K : PySem.W.Frag) : Sp := fun vs H Q _ => ∃ (v : V) (s : Stm), vs = [v] ∧ At K H (flS s) v ∧ isCall s = false ∧ ∀ r, At K H (valD s) r → Q r H
theorem ok_value_of {f : Addr} {fd : FuncData} (F : Fun K "value_of" "value_of" s_value_of f fd) (T : Txt K mg) (TP : PlaceTxt K w mg) : FnOk P w K mg base CX0 1 f fd ["statement"] (spVof K) := by
  refine F.ok sc_value_of (fun vs H Q E h => ?_) (fun cdv A outer s H vs Q E hr h => ?_)
  · obtain ⟨v, x, rfl, _⟩ := h
    rfl
  · obtain ⟨v, x, rfl, hat, hc, k⟩ := h
    obtain ⟨dV, esV, nV, m_VALUE_PLACES, hD_VALUE_PLACES, hno, hyes⟩ := TP.ex
    obtain ⟨p, r, rfl, hp⟩ := fl_kind hat
    refine ⟨_, (pss_cons (ps_set (i := 1) sc_value_of.nd rfl (.inl rfl) (pe_ix ix_tup (pv 0) pe_int (fun _ _ => rfl)))
      (pss_one (ps_ret (pe_ifExp (pt_cmpR (op_in_kd hD_VALUE_PLACES) (pv 1) (pe_glob rfl m_VALUE_PLACES relR) (by rfl)) (pe_ix ix_tup (pv 0) (pe_ix ix_kdict (pe_glob rfl m_VALUE_PLACES relR) (pv 1) (fun _ _ => rfl)) (fun _ _ => rfl)) pe_non)))), ?_⟩
    refine ⟨_, rfl, p, _, _, _, rfl, rfl, SqT.of hp, atI_nat (j := 0) rfl, ?_⟩
    have yes : ∀ kz, placeOf (kindS x) = some kz → ∃ t, PySem.W.nsIn K dV (kindS x) = some (some (.int kz t)) ∧ KDct K w dV (kindS x) (.int kz) := fun kz h => by
      obtain ⟨t, ht⟩ := hyes _ kz h
      exact ⟨t, ht, esV, nV, _, hD_VALUE_PLACES.at_, hD_VALUE_PLACES.lit, ht, ⟨t, rfl⟩⟩
    cases x with
    | call q es => cases hc
    | ask e x => exact ⟨_, rfl, _, _, rfl, rfl, hno _ (by simp only [kindS]; decide +kernel), _, rfl, iteF (k .non (by simp only [valD, At]))⟩
    | msg a b l v x =>
      unfold flS At at hat
      obtain ⟨p2, vs, e2, hp2, hl⟩ := hat
      cases e2
      simp only [AtL] at hl
      obtain ⟨v0, _, rfl, h0, v1, _, rfl, h1, v2, _, rfl, h2, v3, _, rfl, h3, v4, _, rfl, h4, _⟩ := hl
      obtain ⟨tt, ht, kd⟩ := yes 4 (by simp only [kindS]; decide +kernel)
      exact ⟨_, rfl, _, _, rfl, rfl, ht, _, rfl, iteT ⟨_, rfl, _, rfl, dV, _, _, rfl, rfl, kd, p, _, _, _, rfl, rfl, SqT.of hp2, atI_nat (j := 4) rfl, k v4 h4⟩⟩
    | set e x v =>
      unfold flS At at hat
      obtain ⟨p2, vs, e2, hp2, hl⟩ := hat
      cases e2
      simp only [AtL] at hl
      obtain ⟨v0, _, rfl, h0, v1, _, rfl, h1, v2, _, rfl, h2, v3, _, rfl, h3, _⟩ := hl
      obtain ⟨tt, ht, kd⟩ := yes 3 (by simp only [kindS]; decide +kernel)
      exact ⟨_, rfl, _, _, rfl, rfl, ht, _, rfl, iteT ⟨_, rfl, _, rfl, dV, _, _, rfl, rfl, kd, p, _, _, _, rfl, rfl, SqT.of hp2, atI_nat (j := 3) rfl, k v3 h3⟩⟩
    | ite e v y n =>
      unfold flS At at hat
      obtain ⟨p2, vs, e2, hp2, hl⟩ := hat
      cases e2
      simp only [AtL] at hl
      obtain ⟨v0, _, rfl, h0, v1, _, rfl, h1, v2, _, rfl, h2, _⟩ := hl
      obtain ⟨tt, ht, kd⟩ := yes 2 (by simp only [kindS]; decide +kernel)
      exact ⟨_, rfl, _, _, rfl, rfl, ht, _, rfl, iteT ⟨_, rfl, _, rfl, dV, _, _, rfl, rfl, kd, p, _, _, _, rfl, rfl, SqT.of hp2, atI_nat (j := 2) rfl, k v2 h2⟩⟩
    | whl e v b =>
      unfold flS At at hat
      obtain ⟨p2, vs, e2, hp2, hl⟩ := hat
      cases e2
      simp only [AtL] at hl
      obtain ⟨v0, _, rfl, h0, v1, _, rfl, h1, v2, _, rfl, h2, _⟩ := hl
      obtain ⟨tt, ht, kd⟩ := yes 2 (by simp only [kindS]; decide +kernel)
      exact ⟨_, rfl, _, _, rfl, rfl, ht, _, rfl, iteT ⟨_, rfl, _, rfl, dV, _, _, rfl, rfl, kd, p, _, _, _, rfl, rfl, SqT.of hp2, atI_nat (j := 2) rfl, k v2 h2⟩⟩
end
end OS

namespace OS
open PySem PySem.Spec PyProof.Rows L2
structure Grow (P : Addr) (H H' : Hp) : Prop where
  kept : Kept P H H'
  tab : GxR.TabG H' P
theorem Grow.trans {P : Addr} {H H1 H2 : Hp} (a : Grow P H H1) (b : Grow P H1 H2) : Grow P H H2 := ⟨a.kept.trans b.kept, b.tab⟩
theorem TabG.keep {P : Addr} {H H' : Hp} (s : Same H H') (t : GxR.TabG H P) : GxR.TabG H' P := by
  obtain ⟨ps, h, r⟩ := t
  exact ⟨ps, s _ _ h, r⟩
theorem Grow.of {P : Addr} {H H' : Hp} (s : Same H H') (t : GxR.TabG H P) : Grow P H H' := ⟨Kept.of s, TabG.keep s t⟩
theorem Grow.tabbed {P : Addr} {H H' : Hp} (t : GxR.Tabbed P H H') : Grow P H H' := ⟨fun b o hb e => (t.2 b hb).trans e, t.1⟩
theorem Grow.tup {P : Addr} {H H' : Hp} (t : GxR.TabG H P) (g : Grow P H H') : ∀ b xs, H b = some (.tup xs) → H' b = some (.tup xs) := fun b xs e => by
  refine g.kept b _ (fun q => ?_) e
  obtain ⟨ps, h, _⟩ := t
  rw [q, h] at e
  cases e
theorem Grow.lst {P : Addr} {H H' : Hp} (t : GxR.TabG H P) (g : Grow P H H') : ∀ b xs, H b = some (.lst xs) → H' b = some (.lst xs) := fun b xs e => by
  refine g.kept b _ (fun q => ?_) e
  obtain ⟨ps, h, _⟩ := t
  rw [q, h] at e
  cases e
theorem TabG.ne {P b : Addr} {H : Hp} (t : GxR.TabG H P) (hb : H b = none) : b ≠ P := fun q => by
  obtain ⟨ps, h, _⟩ := t
  rw [← q, hb] at h
  cases h
/-- as Fun, the code object's address told -/
structure FunC (K : PySem.W.Frag) (x qual : Str) (st : Stmt) (f : Addr) (fd : FuncData) (c : Addr) : Prop where
  ex : ∃ (oc : Value) (od : Option Addr) (kV doc pm : Value) (an : Option Addr) (ct : Value) (osl : Array (Option Value)), fd = PySem.W.fnOf x qual (defArgs st) (defBody st) (defScope st) .none kV doc pm an (.ref c) ct ∧
    K.lookup f = some ⟨oc, od, .func fd, osl⟩ ∧ PySem.W.codeIn K (.ref c) qual = true
theorem FunC.ok {P : Program} {w : World} {K : PySem.W.Frag} {mg : Str → Option Value} {base : Heap} {x qual : Str} {st : Stmt} {f c : Addr} {fd : FuncData} {N ps : List Str} {k : Nat} {sp : Sp} (F : FunC K x qual st f fd c) (S : FnScope N ps (defScope st)) (len : ∀ vs H Q E, sp vs H Q E → vs.length = ps.length)
    (hbody : ∀ (A : Around) (outer : List Env) (s : Shared) (H : Hp) (vs : List V) (Q : VK) (E : XK), Room k (A.deeper (envOfC qual (defScope st) s.heap.objs.size f (.ref c))) → sp vs H Q E →
      ∃ t, PSs (cxOf CX0 P w K mg base N qual (defScope st) f (.ref c) A outer s H E).nox (defBody st) t ∧ t { nx := fun _ H' => Q .non H', rt := Q } (start N vs) H) : FnOk P w K mg base CX0 (k + 1) f fd ps sp := by
  obtain ⟨oc, od, kV, doc, pm, an, ct, osl, rfl, lk, hcd⟩ := F.ex
  refine fn_of lk hcd S len fun A outer s H vs Q E hr hsp => ?_
  obtain ⟨t, h, q⟩ := hbody A outer s H vs Q E hr hsp
  exact ⟨t, h.nox, q⟩
theorem FunC.okX {P : Program} {w : World} {K : PySem.W.Frag} {mg : Str → Option Value} {base : Heap} {x qual : Str} {st : Stmt} {f c : Addr} {fd : FuncData} {N ps : List Str} {k : Nat} {sp : Sp} (F : FunC K x qual st f fd c) (S : FnScope N ps (defScope st)) (len : ∀ vs H Q E, sp vs H Q E → vs.length = ps.length)
    (hbody : ∀ (A : Around) (outer : List Env) (s : Shared) (H : Hp) (vs : List V) (Q : VK) (E : XK), Room k (A.deeper (envOfC qual (defScope st) s.heap.objs.size f (.ref c))) → sp vs H Q E →
      ∃ t, PSs (cxOf (L2.CX P w) P w K mg base N qual (defScope st) f (.ref c) A outer s H E) (defBody st) t ∧ t { nx := fun _ H' => Q .non H', rt := Q } (start N vs) H) : FnOk P w K mg base (L2.CX P w) (k + 1) f fd ps sp := by
  obtain ⟨oc, od, kV, doc, pm, an, ct, osl, rfl, lk, hcd⟩ := F.ex
  exact fn_of lk hcd S len hbody
/-! ### a Score -/
structure ScTxt (K : PySem.W.Frag) (C : Addr) : Prop where
  cl : Cls K C
  n1 : NoAttr K C "ends"
  n2 : NoAttr K C "statements"
  n3 : NoAttr K C "next"
  n4 : NoAttr K C "value_numbers"
def scF (en st nx vn : V) : List (Str × V) := [("value_numbers", vn), ("next", nx), ("statements", st), ("ends", en)]
/-- the values are not too large -/
def vSm (v : Val) : Prop := szD v.dt ≤ 4000
structure AvOk (t : Tree) : Prop where
  p : ∀ p ∈ t.parts, avB vSm p.body
  b : avB vSm t.body
noncomputable def stmsD (t : Tree) : List Dt := (rowsT t).map fun r => flS r.st
noncomputable def keysT (t : Tree) : List Dt := (rowsT t).map fun r => keyD (valD r.st)
/-- a Score at x -/
def ScAt (K : PySem.W.Frag) (H : Hp) (C x dx : Addr) (t : Tree) : Prop := ∃ (fs : List (Str × V)) (en st vn : Addr) (nx : V), H x = some (.ins C dx fs) ∧ fs.lookup ("ends" : Str) = some (.ref en) ∧ fs.lookup ("statements" : Str) = some (.ref st) ∧ fs.lookup ("next" : Str) = some nx ∧ fs.lookup ("value_numbers" : Str) = some (.ref vn) ∧
  H en = some (.tup (t.ends.map V.str)) ∧ At K H (.tup (stmsD t)) (.ref st) ∧ At K H (.tup ((nextsI (rowsT t)).map intD)) nx ∧ H vn = some (.tup ((numb (keysT t)).map fun n => V.int (n : Nat)))
/-- all but the new object and the table of code objects are kept -/
structure KpS (x PT : Addr) (H H' : Hp) : Prop where
  kept : ∀ b o, b ≠ x → b ≠ PT → H b = some o → H' b = some o
  tab : GxR.TabG H' PT
section
variable {x PT : Addr} {H H' H'' : Hp}
theorem KpS.of (s : Same H H') (t : GxR.TabG H PT) : KpS x PT H H' := ⟨fun b o _ _ e => s b o e, TabG.keep s t⟩
theorem KpS.trans (a : KpS x PT H H') (b : KpS x PT H' H'') : KpS x PT H H'' := ⟨fun c o n1 n2 e => b.kept c o n1 n2 (a.kept c o n1 n2 e), b.tab⟩
theorem KpS.put (t : GxR.TabG H PT) (h : x ≠ PT) (o : HO) : KpS x PT H (upd H x o) := ⟨fun b ob n _ e => by rw [upd_ne n]; exact e, by
  obtain ⟨ps, h1, h2⟩ := t
  exact ⟨ps, by rw [upd_ne h.symm]; exact h1, h2⟩⟩
theorem KpS.tabbed (t : GxR.Tabbed PT H H') : KpS x PT H H' := ⟨fun b o _ hb e => (t.2 b hb).trans e, t.1⟩
theorem KpS.tup (k : KpS x PT H H') (hx : ∀ ys, H x ≠ some (.tup ys)) (t : GxR.TabG H PT) : ∀ b ys, H b = some (.tup ys) → H' b = some (.tup ys) := fun b ys e => k.kept b _ (fun z => hx ys (by rw [← z]; exact e)) (fun z => by
  obtain ⟨ps, h1, _⟩ := t
  rw [z, h1] at e
  cases e) e
theorem KpS.lst (k : KpS x PT H H') (hx : ∀ ys, H x ≠ some (.lst ys)) (t : GxR.TabG H PT) : ∀ b ys, H b = some (.lst ys) → H' b = some (.lst ys) := fun b ys e => k.kept b _ (fun z => hx ys (by rw [← z]; exact e)) (fun z => by
  obtain ⟨ps, h1, _⟩ := t
  rw [z, h1] at e
  cases e) e
end
section
variable {P : Program} {w : World} {K : PySem.W.Frag} {mg : Str → Option Value} {base : Heap} {C CS PT : Addr}
def spMkS (K : PySem.W.Frag) (C CS PT : Addr) : Sp := fun vs H Q E => ∃ (x dx : Addr) (v : V) (t : Tree), vs = [.ref x, v] ∧ H x = some (.ins C dx []) ∧ At K H t.dt v ∧ TreeOk t ∧ Small t ∧ AvOk t ∧ GxR.TabG H PT ∧
  (treeRule t = none → ∀ H', ScAt K H' C x dx t → KpS x PT H H' → Q .non H') ∧ ∀ z, treeRule t = some z → ∀ d H', Same H H' → xdF H' (some d) "rule" (.str z) → E (.ref CS) (some d) H'
theorem ok_score {f c : Addr} {fd : FuncData} (F : FunC K "__init__" "Score.__init__" s_Score___init__ f fd c) (T : Txt K mg) (TS : ScTxt K C) (TB : GxR.TabB base mg c PT) {f_check_tree : Addr} {d_check_tree : FuncData} (c_check_tree : CalX P w K mg base 5 "check_tree" ["tree"] (spChkT K CS) f_check_tree d_check_tree) {f_played_rows : Addr} {d_played_rows : FuncData} (c_played_rows : Cal P w K mg base 5 "played_rows" ["tree"] (spRows K) f_played_rows d_played_rows) {f_next_positions : Addr} {d_next_positions : FuncData} (c_next_positions : Cal P w K mg base 2 "next_positions" ["rows"] (spNexts K) f_next_positions d_next_positions) {f_numbered : Addr} {d_numbered : FuncData} (c_numbered : Cal P w K mg base 1 "numbered" ["keys"] (spNum K) f_numbered d_numbered) {f_key_of : Addr} {d_key_of : FuncData} (c_key_of : Cal P w K mg base 1 "key_of" ["tree"] (spKey K) f_key_of d_key_of) {f_value_of : Addr} {d_value_of : FuncData} (c_value_of : Cal P w K mg base 1 "value_of" ["statement"] (spVof K) f_value_of d_value_of) : FnOk P w K mg base (L2.CX P w) 6 f fd ["self", "tree"] (spMkS K C CS PT) := by
  refine F.okX sc_Score___init__ (fun vs H Q E h => ?_) (fun A outer s H vs Q E hr h => ?_)
  · obtain ⟨x, dx, v, t, rfl, _⟩ := h
    rfl
  · obtain ⟨x, dx, v, t, rfl, hx, hat, ok, sm, av, hT, k1, k2⟩ := h
    have hat0 := hat
    unfold Tree.dt At at hat
    obtain ⟨tp, vs, rfl, htp, hl⟩ := hat
    simp only [AtL] at hl
    obtain ⟨v0, _, rfl, h0, v1, _, rfl, h1, v2, _, rfl, hb, rfl⟩ := hl
    obtain ⟨ep, rfl, hep⟩ := names_of h0
    have hxP : x ≠ PT := fun z => by
      obtain ⟨ps, h1, _⟩ := hT
      rw [z, h1] at hx
      cases hx
    refine ⟨_, (pss_cons (ps_expr (pe_call c_check_tree.G (hr.mono (by decide)) (by rfl) c_check_tree.m c_check_tree.k c_check_tree.b .nil (passE (takes_of rfl rfl rfl rfl)) (pa_cons (pv 1) pa_nil)))
      (pss_cons (ps_set (i := 2) sc_Score___init__.nd rfl (.inl rfl) (pe_call c_played_rows.G (hr.mono (by decide)) (by rfl) c_played_rows.m c_played_rows.k c_played_rows.b .nil pass0 (pa_cons (pv 1) pa_nil)))
      (pss_cons (ps_fld (pv 0) (pe_callTy call_tuple_of (by rfl) T.tuple (by decide +kernel) (pa_cons (pe_ix ix_tup (pv 1) pe_int (fun _ _ => rfl)) pa_nil)) rfl)
      (pss_cons (ps_fld (pv 0) (pe_tupK hr TB (by rfl) ⟨rfl, rfl, by decide +kernel, by decide +kernel, by decide +kernel, fun y hy e => absurd e ((show ∀ y ∈ _, ¬ (y.2 = NameKind.free) from by decide +kernel) y hy)⟩ (by rfl) T.tuple (pv 2)) rfl)
      (pss_cons (ps_fld (pv 0) (pe_call c_next_positions.G (hr.mono (by decide)) (by rfl) c_next_positions.m c_next_positions.k c_next_positions.b .nil pass0 (pa_cons (pv 2) pa_nil)) rfl)
      (pss_one (ps_fld (pv 0) (pe_callTy call_tuple_of (by rfl) T.tuple (by decide +kernel) (pa_cons (pe_call c_numbered.G (hr.mono (by decide)) (by rfl) c_numbered.m c_numbered.k c_numbered.b .nil pass0 (pa_cons (pe_lc (own := [("statement", 4)]) (g := gName 4) (by rfl) sc_Score___init__.nd (pi_tup (pe_fld (pv 0) rfl)) (blkOk_by (N := ["self", "tree", "rows", "row", "statement"]) (sc := defScope s_Score___init__) (by decide +kernel)) (fun _ _ _ _ _ => pg_name (i := 4) sc_Score___init__.nd rfl (by first | exact Or.inl rfl | exact Or.inr rfl)) (fun _ _ _ _ _ => pts_nil) (fun _ _ _ _ _ => (pe_call c_key_of.G (hr.mono (by decide)) (by rfl) c_key_of.m c_key_of.k c_key_of.b .nil pass0 (pa_cons (pe_call c_value_of.G (hr.mono (by decide)) (by rfl) c_value_of.m c_value_of.k c_value_of.b .nil pass0 (pa_cons (pv 4) pa_nil)) pa_nil)))) pa_nil)) pa_nil)) rfl))))))), ?_⟩
    refine ⟨_, rfl, .ref tp, t, rfl, hat0, ok, fun hn H1 s1 => ?_, fun z hz d H1 s1 hxd => k2 z hz d H1 s1 hxd⟩
    have gd := good_of hn
    refine ⟨_, rfl, .ref tp, t, rfl, At.keep s1 hat0, ok, gd, sm, fun rl us H2 s2 nrl hrl hrows => ?_⟩
    have s12 := s1.trans s2
    have lrows := hrows.length
    rw [List.length_map] at lrows
    have nrows : (rowsT t).length ≤ 150 := by
      unfold rowsT
      rw [numB_len, ex_many gd.ndn gd.al gd.hin gd.hinb]
      exact gd.many
    -- ends
    refine ⟨_, rfl, tp, _, _, _, rfl, rfl, SqT.of (s12 _ _ htp), atI_nat (j := 0) rfl, ep, _, rfl, .inr ⟨SqT.of (s12 _ _ hep), ?_⟩⟩
    have hx2 := s12 _ _ hx
    have hT2 := TabG.keep s12 hT
    refine ⟨_, rfl, x, C, dx, _, rfl, hx2, TS.cl, TS.n1, by show 0 < 1000; decide, ?_⟩
    have hx3 := upd_same (H := H2) (a := x) (o := .ins C dx (putF "ends" (.ref ep) []))
    have K3 : KpS x PT H2 (upd H2 x (.ins C dx (putF "ends" (.ref ep) []))) := KpS.put hT2 hxP _
    generalize upd H2 x (.ins C dx (putF "ends" (.ref ep) [])) = H3 at hx3 K3
    have nt2 : ∀ ys, H2 x ≠ some (.tup ys) := fun ys z => by rw [hx2] at z; cases z
    have nl2 : ∀ ys, H2 x ≠ some (.lst ys) := fun ys z => by rw [hx2] at z; cases z
    have hrl3 := K3.lst nl2 hT2 _ _ hrl
    have hrows3 := kyL_at (K3.tup nt2 hT2) (rows_kab _) hrows
    have hep3 := K3.tup nt2 hT2 _ _ (s12 _ _ hep)
    -- statements
    have kth : ∃ ys, Kth H3 0 us ys ∧ AtL K H3 (stmsD t) ys := by
      clear hrl hrl3 hrows
      unfold stmsD
      unfold Kth
      generalize rowsT t = L at hrows3
      clear nrows lrows
      induction L generalizing us with
      | nil =>
        simp only [List.map_nil, AtL] at hrows3
        subst hrows3
        exact ⟨[], ⟨rfl, fun i a hi => by simp at hi⟩, by simp [AtL]⟩
      | cons r L ih =>
        simp only [List.map_cons, AtL] at hrows3
        obtain ⟨u, q, rfl, h1, h2⟩ := hrows3
        obtain ⟨ys, ⟨e1, e2⟩, e3⟩ := ih q h2
        obtain ⟨a, sv, rfl, ha, hs⟩ := row_at h1
        refine ⟨sv :: ys, ⟨by rw [List.length_cons, List.length_cons, e1], fun i a2 hi => ?_⟩, ?_⟩
        · cases i with
          | zero =>
            simp only [List.getElem?_cons_zero, Option.some.injEq] at hi
            subst hi
            exact ⟨a, _, _, rfl, ha, rfl, rfl⟩
          | succ i => rw [List.getElem?_cons_succ] at hi ⊢; exact e2 i a2 hi
        · simp only [List.map_cons, AtL]
          exact ⟨_, _, rfl, hs, e3⟩
    obtain ⟨ys, hkth, hys⟩ := kth
    have rlP : rl ≠ PT := fun z => by
      obtain ⟨ps, h1, _⟩ := K3.tab
      rw [z, h1] at hrl3
      cases hrl3
    refine ⟨_, rfl, rl, us, ys, rfl, .inl (SqL.of hrl3), rlP, hkth, K3.tab, fun H4 sp tb nsp => ?_⟩
    have K4 : KpS x PT H3 H4 := KpS.tabbed tb
    have nt3 : ∀ ys, H3 x ≠ some (.tup ys) := fun ys z => by rw [hx3] at z; cases z
    have nl3 : ∀ ys, H3 x ≠ some (.lst ys) := fun ys z => by rw [hx3] at z; cases z
    have hx4 : H4 x = some (.ins C dx (putF "ends" (.ref ep) [])) := by rw [tb.2 x hxP]; exact hx3
    have hys4 := kyL_at (K4.tup nt3 K3.tab) (kableL_of fun d hd => by obtain ⟨r, _, rfl⟩ := List.mem_map.mp hd; exact flS_kable _) hys
    have hrl4 := K4.lst nl3 K3.tab _ _ hrl3
    have hrows4 := kyL_at (K4.tup nt3 K3.tab) (rows_kab _) hrows3
    have hep4 := K4.tup nt3 K3.tab _ _ hep3
    have s5 := same_upd (o := .tup ys) nsp
    have hsp5 : upd H4 sp (.tup ys) sp = some (.tup ys) := upd_same
    have hx5 := s5 _ _ hx4
    have hT5 := TabG.keep s5 K4.tab
    refine ⟨_, rfl, x, C, dx, _, rfl, hx5, TS.cl, TS.n2, by show 1 < 1000; decide, ?_⟩
    have hst5 : At K (upd H4 sp (.tup ys)) (.tup (stmsD t)) (.ref sp) := by
      unfold At
      exact ⟨sp, ys, rfl, hsp5, AtL.keep s5 hys4⟩
    have hrl5 := s5 _ _ hrl4
    have hrows5 := AtL.keep s5 hrows4
    have hep5 := s5 _ _ hep4
    have K5 : KpS x PT H2 (upd H4 sp (.tup ys)) := (K3.trans K4).trans (KpS.of s5 K4.tab)
    generalize upd H4 sp (.tup ys) = H5 at hx5 hT5 hst5 hrl5 hrows5 hep5 K5
    have nt5 : ∀ ys, H5 x ≠ some (.tup ys) := fun ys z => by rw [hx5] at z; cases z
    have nl5 : ∀ ys, H5 x ≠ some (.lst ys) := fun ys z => by rw [hx5] at z; cases z
    have hx6 := upd_same (H := H5) (a := x) (o := .ins C dx (putF "statements" (.ref sp) (putF "ends" (.ref ep) [])))
    have K6 : KpS x PT H5 (upd H5 x (.ins C dx (putF "statements" (.ref sp) (putF "ends" (.ref ep) [])))) := KpS.put hT5 hxP _
    generalize upd H5 x (.ins C dx (putF "statements" (.ref sp) (putF "ends" (.ref ep) []))) = H6 at hx6 K6
    have skab : kable (.tup (stmsD t)) := by
      simp only [kable]
      exact kableL_of fun d hd => by obtain ⟨r, _, rfl⟩ := List.mem_map.mp hd; exact flS_kable _
    have hst6 := ky_at (K6.tup nt5 hT5) skab hst5
    have hrl6 := K6.lst nl5 hT5 _ _ hrl5
    have hrows6 := kyL_at (K6.tup nt5 hT5) (rows_kab _) hrows5
    have hep6 := K6.tup nt5 hT5 _ _ hep5
    -- next
    refine ⟨_, rfl, rl, us, rowsT t, rfl, hrl6, hrows6, nrows, rows_ow t, fun nx H7 s7 hnx => ?_⟩
    have hx7 := s7 _ _ hx6
    refine ⟨_, rfl, x, C, dx, _, rfl, hx7, TS.cl, TS.n3, by show 2 < 1000; decide, ?_⟩
    have hst7 := At.keep s7 hst6
    have hep7 := s7 _ _ hep6
    have hT7 := TabG.keep s7 K6.tab
    have K7 : KpS x PT H2 H7 := (K5.trans K6).trans (KpS.of s7 K6.tab)
    have nt7 : ∀ ys, H7 x ≠ some (.tup ys) := fun ys z => by rw [hx7] at z; cases z
    have hx8 := upd_same (H := H7) (a := x) (o := .ins C dx (putF "next" nx (putF "statements" (.ref sp) (putF "ends" (.ref ep) []))))
    have K8 : KpS x PT H7 (upd H7 x (.ins C dx (putF "next" nx (putF "statements" (.ref sp) (putF "ends" (.ref ep) []))))) := KpS.put hT7 hxP _
    generalize upd H7 x (.ins C dx (putF "next" nx (putF "statements" (.ref sp) (putF "ends" (.ref ep) [])))) = H8 at hx8 K8
    have nkab : kable (.tup ((nextsI (rowsT t)).map intD)) := by
      simp only [kable]
      exact goals_kab _
    have hst8 := ky_at (K8.tup nt7 hT7) skab hst7
    have hnx8 := ky_at (K8.tup nt7 hT7) nkab hnx
    have hep8 := K8.tup nt7 hT7 _ _ hep7
    -- value_numbers
    unfold At at hst8
    obtain ⟨sp2, ys8, e8, hsp8, hys8⟩ := hst8
    cases e8
    have ly8 := hys8.length
    unfold stmsD at ly8
    rw [List.length_map] at ly8
    refine ⟨_, rfl, x, C, dx, _, _, rfl, hx8, TS.cl, TS.n2, rfl, sp, rfl, ⟨_, SqT.of hsp8⟩, fun D nD => ?_⟩
    have hxD : x ≠ D := fun z => by rw [← z, hx8] at nD; cases nD
    have hT8 := K8.tab
    refine lc_it (walk_tup (K := K) (a := sp) (xs := ys8)) (fun i H' => ∃ acc, H' D = some (.lst acc) ∧ Keys K H' ((keysT t).take i) acc ∧ Same H8 H') ⟨[], upd_same, ⟨rfl, fun i d hi => by simp at hi⟩, same_upd nD⟩ (fun i H' _ q => by obtain ⟨_, _, _, s⟩ := q; exact SqT.of (s _ _ hsp8)) ?_ ?_
    · rintro i u H9 H9 hi ⟨acc, hD, hk, s9⟩ ⟨rfl, hu⟩
      have hir : i < (rowsT t).length := by omega
      obtain ⟨v9, e1, e2⟩ := hys8.get (i := i) (d := flS (rowsT t)[i].st) (by unfold stmsD; rw [List.getElem?_map, List.getElem?_eq_getElem hir]; rfl)
      rw [hu] at e1
      cases e1
      have hrm := List.getElem_mem hir
      have hval := rows_val av.p av.b _ hrm
      refine ⟨rfl, iteT (B := True) ⟨_, rfl, u, (rowsT t)[i].st, rfl, At.keep s9 e2, rows_no_call t _ hrm, fun r hr9 => ⟨r, _, rfl, hr9, valD_kable _, ?_, fun kp H10 s10 hkp => ?_⟩⟩⟩
      · generalize (rowsT t)[i].st = st at hval
        cases st with
        | ask e x => simp [valD, szD]
        | call q es => simp [valD, szD]
        | _ => exact hval
      · have hD10 := s10 _ _ hD
        have tk := tup_list (o := .lst (acc ++ [.ref kp])) hD10
        have lk := hk.1
        refine ⟨acc, hD10, ?_, acc ++ [.ref kp], upd_same, ?_, same_off nD (s9.trans s10)⟩
        · rw [lk, List.length_take]
          exact sz6' (by omega)
        · rw [List.take_add_one, show (keysT t)[i]? = some (keyD (valD (rowsT t)[i].st)) by unfold keysT; rw [List.getElem?_map, List.getElem?_eq_getElem hir]; rfl]
          have kyk : Ky K H10 (keyD (valD (rowsT t)[i].st)) kp := ⟨hkp, (keyD_ok (valD_kable _)).1, Nat.le_trans (keyD_ok (valD_kable _)).2 (by decide)⟩
          exact Keys.snoc ((hk.keep (fun b xs e => s10 b _ e)).keep tk) (kyk.keep tk)
    · rintro H9 ⟨acc, hD, hk, s9⟩
      have lkt : (keysT t).length = (rowsT t).length := by unfold keysT; rw [List.length_map]
      rw [ly8, ← lkt, List.take_length] at hk
      refine ⟨D, acc, keysT t, rfl, hD, hk, by omega, fun np H10 s10 hnp => ?_⟩
      refine ⟨np, _, rfl, .inl ⟨SqL.of hnp, fun vn nvn => ?_⟩⟩
      have s11 := (s9.trans s10).trans (same_upd (o := .tup ((numb (keysT t)).map fun n => V.int (n : Nat))) nvn)
      have hvn := upd_same (H := H10) (a := vn) (o := .tup ((numb (keysT t)).map fun n => V.int (n : Nat)))
      generalize upd H10 vn (.tup ((numb (keysT t)).map fun n => V.int (n : Nat))) = H11 at s11 hvn
      have hx11 := s11 _ _ hx8
      refine ⟨_, rfl, x, C, dx, _, rfl, hx11, TS.cl, TS.n4, by show 3 < 1000; decide, ?_⟩
      have hT11 := TabG.keep s11 hT8
      have nt11 : ∀ ys, H11 x ≠ some (.tup ys) := fun ys z => by rw [hx11] at z; cases z
      have K12 : KpS x PT H11 (upd H11 x (.ins C dx (putF "value_numbers" (.ref vn) (putF "next" nx (putF "statements" (.ref sp) (putF "ends" (.ref ep) [])))))) := KpS.put hT11 hxP _
      refine k1 hn _ ⟨_, ep, sp, vn, nx, upd_same, by kernel_rfl, by kernel_rfl, by kernel_rfl, by kernel_rfl, ?_, ?_, ?_, ?_⟩ ?_
      · exact K12.tup nt11 hT11 _ _ (s11 _ _ hep8)
      · refine ky_at (K12.tup nt11 hT11) skab (At.keep s11 ?_)
        unfold At
        exact ⟨sp, ys8, rfl, hsp8, hys8⟩
      · exact ky_at (K12.tup nt11 hT11) nkab (At.keep s11 hnx8)
      · exact K12.tup nt11 hT11 _ _ hvn
      · have Ka : KpS x PT H H2 := KpS.of s12 hT
        exact (Ka.trans (K7.trans K8)).trans ((KpS.of s11 hT8).trans K12)
end
end OS

namespace OS
open PySem PySem.Spec PyProof.Rows L2
section
variable {P : Program} {w : World} {K : PySem.W.Frag} {mg : Str → Option Value} {base : Heap}
theorem fdiv_nn {a b : Int} (ha : 0 ≤ a) (hb : 0 < b) : 0 ≤ a.fdiv b := by
  rw [Int.fdiv_eq_ediv_of_nonneg _ (by omega)]
  exact Int.ediv_nonneg ha (by omega)
/-! ### _law_take -/
theorem ok_law_take {f : Addr} {fd : FuncData} (F : Fun K "_law_take" "_law_take" s__law_take f fd) (T : Txt K mg) : FnOk P w K mg base CX0 1 f fd ["tape", "many"] spTake := by
  refine F.ok sc__law_take (fun vs H Q E h => ?_) (fun cdv A outer s H vs Q E hr h => ?_)
  · obtain ⟨d, c, m, rfl, _⟩ := h
    rfl
  · obtain ⟨d, c, m, rfl, hT, hm, hm2, k⟩ := h
    have hu := hu_of hr
    refine ⟨_, (Evl.pss_cut (ps_if (PW.pt (pw_and (pt_cmpR op_eq (pe_dget hu (pv 0) pe_str (fun _ _ => rfl)) pe_int (nomark _)) (pw_and1 (pt_cmpR op_lt (pe_dget hu (pv 0) pe_str (fun _ _ => rfl)) (pe_callB call_len_seq (by rfl) T.len PySem.boot_len (pa_cons (pe_dget hu (pv 0) pe_str (fun _ _ => rfl)) pa_nil)) (nomark _))))) (pss_cons (ps_dput hu (pv 0) pe_str (pe_ix ix_list (pe_dget hu (pv 0) pe_str (fun _ _ => rfl)) (pe_dget hu (pv 0) pe_str (fun _ _ => rfl)) (fun _ _ => rfl)) rfl)
      (pss_one (ps_dput hu (pv 0) pe_str (pe_op op_add (pe_dget hu (pv 0) pe_str (fun _ _ => rfl)) pe_int) rfl))) pss_nil)
      (pss_cons (ps_if (pt_cmpR op_gt (pe_dget hu (pv 0) pe_str (fun _ _ => rfl)) pe_int (nomark _)) (pss_cons (ps_set (i := 2) sc__law_take.nd rfl (.inl rfl) (pe_op op_modN (pe_callTy call_int1 (by rfl) T.int (by decide +kernel) (pa_cons (pe_dget hu (pv 0) pe_str (fun _ _ => rfl)) pa_nil)) (pv 1)))
      (pss_cons (ps_dput hu (pv 0) pe_str (pe_op op_fdivN (pe_dget hu (pv 0) pe_str (fun _ _ => rfl)) (pv 1)) rfl)
      (pss_one (ps_ret (pv 2))))) pss_nil)
      (pss_cons (ps_dput hu (pv 0) pe_str (pe_op op_add (pe_dget hu (pv 0) pe_str (fun _ _ => rfl)) pe_int) rfl)
      (pss_cons (ps_set (i := 3) sc__law_take.nd rfl (.inl rfl) (pe_op op_modN (pe_callTy call_int1 (by rfl) T.int (by decide +kernel) (pa_cons (pe_op op_add (pe_op op_mul (pe_dget hu (pv 0) pe_str (fun _ _ => rfl)) pe_int) (pe_op op_mul (pe_dget hu (pv 0) pe_str (fun _ _ => rfl)) pe_int)) pa_nil)) pe_int))
      (pss_cons (ps_set (i := 3) sc__law_take.nd rfl (.inl rfl) (pe_op op_modN (pe_callTy call_int1 (by rfl) T.int (by decide +kernel) (pa_cons (pe_op op_add (pe_op op_add (pe_op op_mul (pv 3) (pv 3)) (pe_op op_mul (pe_dget hu (pv 0) pe_str (fun _ _ => rfl)) pe_int)) pe_int) pa_nil)) pe_int))
      (pss_one (ps_ret (pe_op op_modN (pe_callTy call_int1 (by rfl) T.int (by decide +kernel) (pa_cons (pv 3) pa_nil)) (pv 1))))))))), ?_⟩
    refine ⟨fun σ H1 => σ = [some (.ref d), some (.int m), none, none] ∧ Tape H1 d c ∧ Off d H H1, ?_, ?_⟩
    · obtain ⟨ns, i, l, se, sa, t⟩ := id hT
      refine ⟨_, rfl, d, _, rfl, t.gleft, rfl, _, rfl, ?_⟩
      refine ite2 (fun c1 => ?_) (fun c1 => ?_)
      · refine ⟨_, rfl, d, _, rfl, t.gat, _, rfl, d, _, rfl, t.gcells, c, _, rfl, .inl (SqL.of t.hc), _, _, rfl, rfl, _, rfl, ?_⟩
        rw [List.length_map]
        refine ite2 (fun c2 => ?_) (fun c2 => ?_)
        · have c2 : (i : Int) < (ns.length : Int) := of_decide_eq_true c2
          have hi : i < ns.length := by omega
          have g : (ns.map V.int)[i]? = some (.int ns[i]) := by
            rw [List.getElem?_map, List.getElem?_eq_getElem hi]
            rfl
          refine ⟨_, rfl, d, _, rfl, t.gcells, _, rfl, d, _, rfl, t.gat, c, _, _, _, rfl, rfl, SqL.of t.hc, atI_nat g, _, rfl, d, _, rfl, t.pleft _, ?_⟩
          have t1 := t.set (j := i) (l := ns[i]) (s := sa) t.hi (t.hn _ (List.getElem_mem hi)) t.ht
          refine ⟨_, rfl, d, _, rfl, t1.gat, _, _, rfl, rfl, _, rfl, d, _, rfl, t1.pat _, ?_⟩
          have t2 := t1.set (j := i + 1) (l := ns[i]) (s := sa) (by omega) t1.hl t.ht
          exact ⟨rfl, ⟨ns, i + 1, _, _, _, t2⟩, off_upd.trans off_upd⟩
        · exact ⟨rfl, hT, .refl⟩
      · exact iteF ⟨rfl, hT, .refl⟩
    · rintro σ H1 ⟨rfl, hT, hO⟩
      obtain ⟨ns, i, l, se, sa, t⟩ := id hT
      refine ⟨_, rfl, d, _, rfl, t.gleft, _, _, rfl, rfl, _, rfl, ?_⟩
      refine ite2 (fun c1 => ?_) (fun c1 => ?_)
      · have c1 : 0 < l := of_decide_eq_true c1
        refine ⟨_, rfl, d, _, rfl, t.gleft, .inl ⟨_, rfl, _, rfl, _, _, rfl, rfl, by omega, ?_⟩⟩
        refine ⟨_, rfl, d, _, rfl, t.gleft, _, rfl, _, _, rfl, rfl, ⟨by omega, by omega⟩, _, rfl, d, _, rfl, t.pleft _, ?_⟩
        have t1 := t.set (j := i) (l := l.fdiv m) (s := sa) t.hi (fdiv_nn t.hl hm) t.ht
        exact ⟨_, rfl, k _ _ (Int.fmod_nonneg_of_pos _ hm) (Int.fmod_lt_of_pos _ hm) ⟨ns, i, _, _, _, t1⟩ (hO.trans off_upd)⟩
      · refine ⟨_, rfl, d, _, rfl, t.gsalt, _, _, rfl, rfl, _, rfl, d, _, rfl, t.psalt _, ?_⟩
        have t1 := t.set (j := i) (l := l) (s := sa + 1) t.hi t.hl (by have := t.ht; omega)
        have hs := t.hs
        refine ⟨_, rfl, d, _, rfl, t1.gseed, _, _, rfl, rfl, .inl ⟨by omega, by omega⟩, ?_⟩
        refine ⟨_, rfl, d, _, rfl, t1.gsalt, _, _, rfl, rfl, .inr ⟨by decide, by decide⟩, _, _, rfl, rfl, .inl ⟨_, rfl, _, _, rfl, rfl, (by show (2147483647 : Int) ≠ 0; decide), ?_⟩⟩
        have b1 := Int.fmod_nonneg_of_pos (se * 48271 + (sa + 1) * 69621) (show (0 : Int) < 2147483647 by decide)
        have b2 := Int.fmod_lt_of_pos (se * 48271 + (sa + 1) * 69621) (show (0 : Int) < 2147483647 by decide)
        refine ⟨_, rfl, _, rfl, _, _, rfl, rfl, .inl ⟨by omega, by omega⟩, ?_⟩
        refine ⟨_, rfl, d, _, rfl, t1.gsalt, _, _, rfl, rfl, .inr ⟨by decide, by decide⟩, _, _, rfl, rfl, _, _, rfl, rfl, .inl ⟨_, rfl, _, _, rfl, rfl, (by show (2147483399 : Int) ≠ 0; decide), ?_⟩⟩
        refine ⟨_, rfl, .inl ⟨_, rfl, _, rfl, _, _, rfl, rfl, by omega, ?_⟩⟩
        exact k _ _ (Int.fmod_nonneg_of_pos _ hm) (Int.fmod_lt_of_pos _ hm) ⟨ns, i, _, _, _, t1⟩ (hO.trans off_upd)
/-! ### _law_tape -/
theorem ok_law_tape {f : Addr} {fd : FuncData} (F : Fun K "_law_tape" "_law_tape" s__law_tape f fd) (T : Txt K mg) : FnOk P w K mg base CX0 1 f fd ["script"] (spTape K) := by
  refine F.ok sc__law_tape (fun vs H Q E h => ?_) (fun cdv A outer s H vs Q E hr h => ?_)
  · obtain ⟨a, ns, rfl, _⟩ := h
    rfl
  · obtain ⟨a, ns, rfl, hS, h63, k⟩ := h
    have hu := hu_of hr
    have hgn : ∀ {i : Nat} {x : V}, (ns.map V.int)[i]? = some x → ∃ n, ns[i]? = some n ∧ x = .int n := fun {i x} hi => by
      rw [List.getElem?_map] at hi
      cases e : ns[i]? with
      | none => rw [e] at hi; cases hi
      | some n => rw [e] at hi; exact ⟨n, rfl, (Option.some.inj hi).symm⟩
    refine ⟨_, (pss_cons (ps_setLc (i := 2) (own := [("cell", 1)]) (g := gName 1) (by rfl) sc__law_tape.nd rfl rfl (sw_true rfl rfl rfl (by decide +kernel)) (pi_list (pv 0)) (blkOk_by (N := ["script", "cell", "cells", "seed"]) (sc := defScope s__law_tape) (by decide +kernel)) (fun _ _ _ _ _ => pg_name (i := 1) sc__law_tape.nd rfl (by first | exact Or.inl rfl | exact Or.inr rfl)) (fun _ _ _ _ _ => pts_nil) (fun _ _ _ _ _ => (pe_callB call_abs (by rfl) T.abs (by decide +kernel) (pa_cons (pe_callTy call_int1 (by rfl) T.int (by decide +kernel) (pa_cons (pv 1) pa_nil)) pa_nil))))
      (pss_cons (ps_set (i := 3) sc__law_tape.nd rfl (.inl rfl) pe_int)
      (pss_cons (ps_for PassesOwn.never rfl (pi_list (pv 2)) (pg_name (i := 1) sc__law_tape.nd rfl (.inl rfl)) (pss_one (ps_set (i := 3) sc__law_tape.nd rfl (.inl rfl) (pe_op op_modN (pe_callTy call_int1 (by rfl) T.int (by decide +kernel) (pa_cons (pe_op op_add (pe_op op_mul (pv 3) pe_int) (pv 1)) pa_nil)) pe_int))))
      (pss_one (ps_ret (pe_disp (pps_cons pe_str (pv 2) (pps_cons pe_str pe_int (pps_cons pe_str pe_int (pps_cons pe_str (pv 3) (pps_cons pe_str pe_int pps_nil))))) (by rfl) (by rfl) (fun z => by cases z) (by decide))))))), ?_⟩
    refine ⟨_, rfl, a, rfl, ⟨_, hS⟩, fun D nD => ?_⟩
    refine lc_list (K := K) (a := a) (xs := ns.map V.int) (fun i H1 => Same H H1 ∧ ∃ ms : List Int, H1 D = some (.lst (ms.map V.int)) ∧ ms.length = i ∧ ∀ n ∈ ms, 0 ≤ n)
      ⟨same_upd nD, [], upd_same, rfl, fun n h => by cases h⟩ (fun i H1 _ h => h.1.seq hS) ?_ ?_
    · rintro i x H1 hi ⟨sm, ms, hD, hl, hn⟩
      obtain ⟨n, en, rfl⟩ := hgn hi
      have hi2 : i < ns.length := (List.getElem?_eq_some_iff.mp en).1
      refine ⟨rfl, iteT (B := True) ?_⟩
      refine ⟨_, rfl, .inl ⟨_, rfl, _, rfl, _, hD, ?_, ?_⟩⟩
      · rw [List.length_map]
        exact sz6' (by omega)
      · refine ⟨fun b o e => ?_, ms ++ [if n < 0 then -n else n], ?_, ?_, ?_⟩
        · rw [upd_ne (ne_of_none e nD)]
          exact sm _ _ e
        · rw [upd_same, List.map_append]
          rfl
        · rw [List.length_append, hl]
          rfl
        · intro y hy
          rcases List.mem_append.mp hy with hy | hy
          · exact hn y hy
          · rw [List.mem_singleton.mp hy]
            split <;> omega
    · rintro H1 ⟨sm, ms, hD, hl, hn⟩
      rw [List.length_map] at hl
      refine ⟨_, rfl, D, rfl, ⟨_, SqL.of hD⟩, for_list (K := K) (a := D) (xs := ms.map V.int) (fun i σ H2 => ∃ (y : Option V) (sd : Int), σ = [some (.ref a), y, some (.ref D), some (.int sd)] ∧ 0 ≤ sd ∧ sd < 2 ^ 62 ∧ H2 = H1)
        ⟨_, 7, rfl, by decide, by decide, rfl⟩ (fun i σ H2 _ ⟨_, _, _, _, _, e⟩ => by rw [e]; exact SqL.of hD) ?_ ?_⟩
      · rintro i x σ H2 hi ⟨y, sd, rfl, h0, h1, rfl⟩
        obtain ⟨n, en, rfl⟩ : ∃ n, ms[i]? = some n ∧ x = .int n := by
          rw [List.getElem?_map] at hi
          cases e : ms[i]? with
          | none => rw [e] at hi; cases hi
          | some n => rw [e] at hi; exact ⟨n, rfl, (Option.some.inj hi).symm⟩
        refine ⟨_, rfl, _, _, rfl, rfl, .inl ⟨by omega, by omega⟩, _, rfl, _, _, rfl, rfl, .inl ⟨_, rfl, _, _, rfl, rfl, (by show (2147483647 : Int) ≠ 0; decide), ?_⟩⟩
        have b1 := Int.fmod_nonneg_of_pos (sd * 31 + n) (show (0 : Int) < 2147483647 by decide)
        have b2 := Int.fmod_lt_of_pos (sd * 31 + n) (show (0 : Int) < 2147483647 by decide)
        exact ⟨_, _, rfl, b1, by omega, rfl⟩
      · rintro σ H2 ⟨y, sd, rfl, h0, h1, rfl⟩
        intro d hd
        refine ⟨_, rfl, _, rfl, upd_same, tapeD D 0 0 sd 0, rfl, (by show 5 ≤ 15; decide), ?_⟩
        have hDd : D ≠ d := ne_of_none hD hd
        have t : TapeIs (upd (upd H2 d (.dK [])) d (.dK (mergeK [] (tapeD D 0 0 sd 0)))) d D ms 0 0 sd 0 := by
          refine ⟨?_, ?_, Nat.zero_le _, hn, by decide, ⟨h0, h1⟩, by decide⟩
          · rw [upd_same, merge_tape]
            rfl
          · rw [upd_ne hDd, upd_ne hDd]
            exact hD
        refine k d D _ (fun b o e => ?_) (sm.free hd) nD ⟨ms, 0, 0, sd, 0, t⟩
        rw [upd_ne (ne_of_none (sm _ _ e) hd), upd_ne (ne_of_none (sm _ _ e) hd)]
        exact sm _ _ e
end
mutual
def noL : Dt → Bool
  | .lst _ => false
  | .tup xs => noLs xs
  | _ => true
def noLs : List Dt → Bool
  | [] => true
  | d :: ds => noL d && noLs ds
end
theorem Val.noL : ∀ v : Val, OS.noL v.dt = true
  | .num n => by simp [Val.dt, OS.noL, noLs]
  | .name x => by simp [Val.dt, OS.noL, noLs]
  | .op s a b => by simp [Val.dt, OS.noL, noLs, Val.noL a, Val.noL b]
theorem names_noL (es : List Str) : noL (namesDt es) = true := by
  unfold namesDt noL
  induction es with
  | nil => rfl
  | cons x r ih => rw [List.map_cons]; simp [noLs, noL, ih]
mutual
theorem Stm.noL : ∀ s : Stm, OS.noL s.dt = true
  | .msg a b l v x => by simp [Stm.dt, OS.noL, noLs, Val.noL v]
  | .set e x v => by simp [Stm.dt, OS.noL, noLs, Val.noL v]
  | .ask e x => by simp [Stm.dt, OS.noL, noLs]
  | .call p es => by
    have h := names_noL es
    simp [Stm.dt, OS.noL, noLs, h]
  | .ite e v yes no => by simp [Stm.dt, OS.noL, noLs, Val.noL v, blk_noL yes, blk_noL no]
  | .whl e v b => by simp [Stm.dt, OS.noL, noLs, Val.noL v, blk_noL b]
theorem blk_noL : ∀ b : List Stm, noLs (blkDts b) = true
  | [] => by simp [blkDts, noLs]
  | s :: r => by simp [blkDts, noLs, Stm.noL s, blk_noL r]
end
mutual
/-- data without lists stand while a list changes -/
theorem At.offL {K : PySem.W.Frag} {H : Hp} {a : Addr} {xs ys : List V} (ha : H a = some (.lst xs)) : ∀ {d : Dt} {v : V}, noL d = true → At K H d v → At K (upd H a (.lst ys)) d v
  | .non, v, _, h => by unfold At at h ⊢; exact h
  | .bl b, v, _, h => by unfold At at h ⊢; exact h
  | .int i, v, _, h => by unfold At at h ⊢; exact h
  | .str x, v, _, h => by unfold At at h ⊢; exact h
  | .tup ds, v, n, h => by
    unfold At at h ⊢
    unfold noL at n
    obtain ⟨p, vs, e, hp, hl⟩ := h
    exact ⟨p, vs, e, by rw [upd_ne (ne_of hp ha (by intro q; cases q))]; exact hp, AtL.offL ha n hl⟩
  | .lst ds, v, n, h => by
    unfold noL at n
    cases n
theorem AtL.offL {K : PySem.W.Frag} {H : Hp} {a : Addr} {xs ys : List V} (ha : H a = some (.lst xs)) : ∀ {ds : List Dt} {vs : List V}, noLs ds = true → AtL K H ds vs → AtL K (upd H a (.lst ys)) ds vs
  | [], vs, _, h => by unfold AtL at h ⊢; exact h
  | d :: ds, vs, n, h => by
    unfold noLs at n
    rw [Bool.and_eq_true] at n
    unfold AtL at h ⊢
    obtain ⟨v, q, e, hd, hl⟩ := h
    exact ⟨v, q, e, At.offL ha n.1 hd, AtL.offL ha n.2 hl⟩
end
theorem prts_noL : ∀ ps : List Prt, noLs (ps.map Prt.dt) = true
  | [] => rfl
  | p :: r => by
    rw [List.map_cons, noLs, prts_noL r, Bool.and_true]
    unfold Prt.dt noL
    simp only [noLs, names_noL, Bool.and_true, Bool.true_and]
    unfold blkDt noL
    rw [blk_noL]
    rfl
theorem prt_noL (p : Prt) : noL p.dt = true := by
  have := prts_noL [p]
  simpa [noLs] using this
theorem num_dt {K : PySem.W.Frag} {H : Hp} {p : Addr} {n : Int} (h : H p = some (.tup [.str "number", .int n])) : At K H (Val.num n).dt (.ref p) := by
  unfold Val.dt At
  refine ⟨p, _, rfl, h, ?_⟩
  simp only [AtL, At]
  exact ⟨_, _, rfl, rfl, _, _, rfl, rfl, rfl⟩
theorem name_dt {K : PySem.W.Frag} {H : Hp} {p : Addr} {x : Str} (h : H p = some (.tup [.str "name", .str x])) : At K H (Val.name x).dt (.ref p) := by
  unfold Val.dt At
  refine ⟨p, _, rfl, h, ?_⟩
  simp only [AtL, At]
  exact ⟨_, _, rfl, rfl, _, _, rfl, rfl, rfl⟩
theorem op_at {K : PySem.W.Frag} {H : Hp} {p : Addr} {s : Str} {a b : Val} {u v : V} (h : H p = some (.tup [.str s, u, v])) (ha : At K H a.dt u) (hb : At K H b.dt v) : At K H (Val.op s a b).dt (.ref p) := by
  unfold Val.dt At
  refine ⟨p, _, rfl, h, ?_⟩
  simp only [AtL]
  exact ⟨_, _, rfl, by unfold At; rfl, _, _, rfl, ha, _, _, rfl, hb, rfl⟩
theorem names_at {K : PySem.W.Frag} {H : Hp} {p : Addr} {es : List Str} (h : H p = some (.tup (es.map V.str))) : At K H (namesDt es) (.ref p) := by
  unfold namesDt At
  refine ⟨p, _, rfl, h, ?_⟩
  clear h
  induction es with
  | nil =>
    show AtL K H [] []
    unfold AtL
    rfl
  | cons x r ih =>
    rw [List.map_cons, List.map_cons]
    unfold AtL
    exact ⟨_, _, rfl, by unfold At; rfl, ih⟩
end OS

namespace OS
open PySem PySem.Spec PyProof.Rows L2
/-! ### trees are drawn: values -/
def Val.dep : Val → Nat
  | .num _ => 0
  | .name _ => 0
  | .op _ a b => max a.dep b.dep + 1
def VOk : Val → Prop
  | .num n => n = 0 ∨ n = 1 ∨ n = 2 ∨ n = 3 ∨ n = 7 ∨ n = 4294967295
  | .name x => x = "n" ∨ x = "m" ∨ x = "k"
  | .op s a b => (s = "+" ∨ s = "-" ∨ s = "*" ∨ s = "<" ∨ s = "==") ∧ VOk a ∧ VOk b
theorem pick_of {xs : List V} {r : Int} (h0 : 0 ≤ r) (h1 : r < (xs.length : Int)) : ∃ x ∈ xs, atI xs r = some x := by
  obtain ⟨i, rfl⟩ := Int.eq_ofNat_of_zero_le h0
  have hi : i < xs.length := by omega
  exact ⟨xs[i], List.getElem_mem hi, atI_nat (List.getElem?_eq_getElem hi)⟩
section
variable {P : Program} {w : World} {K : PySem.W.Frag} {mg : Str → Option Value} {base : Heap}
def spNumber : Sp := fun vs H Q _ => ∃ d c : Addr, vs = [.ref d] ∧ Tape H d c ∧ ∀ (n : Int) H', VOk (.num n) → Tape H' d c → Kept d H H' → Q (.int n) H'
theorem ok_law_number {f : Addr} {fd : FuncData} (F : Fun K "_law_number" "_law_number" s__law_number f fd) (T : Txt K mg) {f__law_take : Addr} {d__law_take : FuncData} (c__law_take : Cal P w K mg base 1 "_law_take" ["tape", "many"] spTake f__law_take d__law_take) : FnOk P w K mg base CX0 2 f fd ["tape"] spNumber := by
  refine F.ok sc__law_number (fun vs H Q E h => ?_) (fun cdv A outer s H vs Q E hr h => ?_)
  · obtain ⟨d, c, rfl, _⟩ := h
    rfl
  · obtain ⟨d, c, rfl, hT, k⟩ := h
    refine ⟨_, (pss_one (ps_ret (pe_ix ix_list (pe_lst (pa_cons pe_int (pa_cons pe_int (pa_cons pe_int (pa_cons pe_int (pa_cons pe_int (pa_cons pe_int pa_nil))))))) (pe_call c__law_take.G (hr.mono (by decide)) (by rfl) c__law_take.m c__law_take.k c__law_take.b .nil pass0 (pa_cons (pv 0) (pa_cons pe_int pa_nil))) (fun _ _ => rfl)))), ?_⟩
    refine ⟨by show 6 ≤ sizeLine; decide, fun l hl => ?_⟩
    refine ⟨_, rfl, d, c, 6, rfl, hT.keep (same_upd hl), by decide, by decide, fun r H' r0 r1 T' O => ?_⟩
    obtain ⟨x, hx, e⟩ := pick_of (xs := [.int 0, .int 1, .int 2, .int 3, .int 7, .int 4294967295]) r0 r1
    refine ⟨l, _, _, _, rfl, rfl, SqL.of (by rw [O l (hT.ne hl).1]; exact upd_same), e, ?_⟩
    have kp := (Kept.of (d := d) (same_upd (o := .lst [.int 0, .int 1, .int 2, .int 3, .int 7, .int 4294967295]) hl)).trans O.kept
    simp only [List.mem_cons, List.not_mem_nil, or_false] at hx
    rcases hx with rfl | rfl | rfl | rfl | rfl | rfl
    · exact k 0 H' (.inl rfl) T' kp
    · exact k 1 H' (.inr (.inl rfl)) T' kp
    · exact k 2 H' (.inr (.inr (.inl rfl))) T' kp
    · exact k 3 H' (.inr (.inr (.inr (.inl rfl)))) T' kp
    · exact k 7 H' (.inr (.inr (.inr (.inr (.inl rfl))))) T' kp
    · exact k 4294967295 H' (.inr (.inr (.inr (.inr (.inr rfl))))) T' kp
def spVal (K : PySem.W.Frag) (n : Nat) : Sp := fun vs H Q _ => ∃ (d c : Addr) (m : Nat), vs = [.ref d, .int m] ∧ m < n ∧ m ≤ 1000 ∧ Tape H d c ∧ ∀ (v : V) (x : Val) H', VOk x → x.dep ≤ m → At K H' x.dt v → Tape H' d c → Kept d H H' → Q v H'
theorem val_none {f : Addr} {fd : FuncData} {ps : List Str} : FnOk P w K mg base CX0 (3+0) f fd ps (spVal K 0) := by
  have no : ∀ vs H Q E, ¬ spVal K 0 vs H Q E := fun vs H Q E h => by
    obtain ⟨d, c, m, _, h, _⟩ := h
    omega
  exact ⟨fun vs H Q E h => absurd h (no vs H Q E), fun A outer s H args us vs Q E _ _ _ _ h => absurd h (no vs H Q E)⟩
end
/-- tuples and lists stand as they were -/
def Rws (H H' : Hp) : Prop := (∀ b xs, H b = some (.tup xs) → H' b = some (.tup xs)) ∧ ∀ b xs, H b = some (.lst xs) → H' b = some (.lst xs)
mutual
theorem At.rws {K : PySem.W.Frag} {H H' : Hp} (s : Rws H H') : ∀ {d : Dt} {v : V}, At K H d v → At K H' d v
  | .non, v, h => by unfold At at h ⊢; exact h
  | .bl b, v, h => by unfold At at h ⊢; exact h
  | .int i, v, h => by unfold At at h ⊢; exact h
  | .str x, v, h => by unfold At at h ⊢; exact h
  | .tup xs, v, h => by
    unfold At at h ⊢
    obtain ⟨p, vs, e, hp, hl⟩ := h
    exact ⟨p, vs, e, s.1 _ _ hp, AtL.rws s hl⟩
  | .lst xs, v, h => by
    unfold At at h ⊢
    obtain ⟨p, vs, e, hp, hl⟩ := h
    exact ⟨p, vs, e, s.2 _ _ hp, AtL.rws s hl⟩
theorem AtL.rws {K : PySem.W.Frag} {H H' : Hp} (s : Rws H H') : ∀ {ds : List Dt} {vs : List V}, AtL K H ds vs → AtL K H' ds vs
  | [], vs, h => by unfold AtL at h ⊢; exact h
  | d :: ds, vs, h => by
    unfold AtL at h ⊢
    obtain ⟨v, r, e, hd, hl⟩ := h
    exact ⟨v, r, e, At.rws s hd, AtL.rws s hl⟩
end
theorem Rws.trans {H H1 H2 : Hp} (a : Rws H H1) (b : Rws H1 H2) : Rws H H2 := ⟨fun x xs h => b.1 _ _ (a.1 _ _ h), fun x xs h => b.2 _ _ (a.2 _ _ h)⟩
theorem Same.rws {H H' : Hp} (s : Same H H') : Rws H H' := ⟨fun x xs h => s _ _ h, fun x xs h => s _ _ h⟩
theorem Tape.rws {H H' : Hp} {d c : Addr} (hT : Tape H d c) (q : Kept d H H') : Rws H H' := by
  obtain ⟨ns, i, l, se, sa, t⟩ := hT
  exact ⟨fun b xs h => q b _ (ne_of h t.hd (by intro z; cases z)) h, fun b xs h => q b _ (ne_of h t.hd (by intro z; cases z)) h⟩
section
variable {P : Program} {w : World} {K : PySem.W.Frag} {mg : Str → Option Value} {base : Heap}
theorem ok_law_value {f : Addr} {fd : FuncData} (F : Fun K "_law_value" "_law_value" s__law_value f fd) (T : Txt K mg) (n : Nat) {f__law_take : Addr} {d__law_take : FuncData} (c__law_take : Cal P w K mg base 1 "_law_take" ["tape", "many"] spTake f__law_take d__law_take) {f__law_number : Addr} {d__law_number : FuncData} (c__law_number : Cal P w K mg base 2 "_law_number" ["tape"] spNumber f__law_number d__law_number) {f__law_value : Addr} {d__law_value : FuncData} (c__law_value : Cal P w K mg base (3+n) "_law_value" ["tape", "depth"] (spVal K n) f__law_value d__law_value) : FnOk P w K mg base CX0 (3+n+1) f fd ["tape", "depth"] (spVal K (n+1)) := by
  refine F.ok sc__law_value (fun vs H Q E h => ?_) (fun cdv A outer s H vs Q E hr h => ?_)
  · obtain ⟨d, c, m, rfl, _⟩ := h
    rfl
  · obtain ⟨d, c, m, rfl, hm, hm1, hT, k⟩ := h
    refine ⟨_, (Evl.pss_cut (ps_set (i := 2) sc__law_value.nd rfl (.inl rfl) (pe_ifExp (pt_cmpR op_gt (pv 1) pe_int (nomark _)) (pe_call c__law_take.G (hr.mono (by omega)) (by rfl) c__law_take.m c__law_take.k c__law_take.b .nil pass0 (pa_cons (pv 0) (pa_cons pe_int pa_nil))) (pe_call c__law_take.G (hr.mono (by omega)) (by rfl) c__law_take.m c__law_take.k c__law_take.b .nil pass0 (pa_cons (pv 0) (pa_cons pe_int pa_nil)))))
      (pss_cons (ps_if (pt_cmpR op_eq (pv 2) pe_int (nomark _)) (pss_one (ps_ret (pe_tup (pa_cons pe_str (pa_cons (pe_call c__law_number.G (hr.mono (by omega)) (by rfl) c__law_number.m c__law_number.k c__law_number.b .nil pass0 (pa_cons (pv 0) pa_nil)) pa_nil))))) pss_nil)
      (pss_cons (ps_if (pt_cmpR op_lt (pv 2) pe_int (nomark _)) (pss_one (ps_ret (pe_tup (pa_cons pe_str (pa_cons (pe_ix ix_list (pe_lst (pa_cons pe_str (pa_cons pe_str (pa_cons pe_str pa_nil)))) (pe_call c__law_take.G (hr.mono (by omega)) (by rfl) c__law_take.m c__law_take.k c__law_take.b .nil pass0 (pa_cons (pv 0) (pa_cons pe_int pa_nil))) (fun _ _ => rfl)) pa_nil))))) pss_nil)
      (pss_cons (ps_set (i := 3) sc__law_value.nd rfl (.inl rfl) (pe_ix ix_list (pe_lst (pa_cons pe_str (pa_cons pe_str (pa_cons pe_str (pa_cons pe_str (pa_cons pe_str (pa_cons pe_str (pa_cons pe_str pa_nil)))))))) (pe_call c__law_take.G (hr.mono (by omega)) (by rfl) c__law_take.m c__law_take.k c__law_take.b .nil pass0 (pa_cons (pv 0) (pa_cons pe_int pa_nil))) (fun _ _ => rfl)))
      (pss_one (ps_ret (pe_tup (pa_cons (pv 3) (pa_cons (pe_call c__law_value.G (hr.mono (by omega)) (by rfl) c__law_value.m c__law_value.k c__law_value.b .nil pass0 (pa_cons (pv 0) (pa_cons (pe_op op_sub (pv 1) pe_int) pa_nil))) (pa_cons (pe_call c__law_value.G (hr.mono (by omega)) (by rfl) c__law_value.m c__law_value.k c__law_value.b .nil pass0 (pa_cons (pv 0) (pa_cons (pe_op op_sub (pv 1) pe_int) pa_nil))) pa_nil)))))))))), ?_⟩
    refine ⟨fun σ H1 => ∃ r : Int, σ = [some (.ref d), some (.int m), some (.int r), none] ∧ 0 ≤ r ∧ (m = 0 → r < 3) ∧ Tape H1 d c ∧ Kept d H H1, ?_, ?_⟩
    · refine ⟨_, rfl, _, _, rfl, rfl, _, rfl, ?_⟩
      refine ite2 (fun c1 => ?_) (fun c1 => ?_)
      · have c1 : (0 : Int) < m := of_decide_eq_true c1
        refine ⟨_, rfl, d, c, 8, rfl, hT, by decide, by decide, fun r H1 r0 r1 T1 O1 => ?_⟩
        exact ⟨r, rfl, r0, fun q => by omega, T1, O1.kept⟩
      · refine ⟨_, rfl, d, c, 3, rfl, hT, by decide, by decide, fun r H1 r0 r1 T1 O1 => ?_⟩
        exact ⟨r, rfl, r0, fun q => r1, T1, O1.kept⟩
    · rintro σ H1 ⟨r, rfl, r0, rm, T1, K1⟩
      refine ⟨_, rfl, rfl, _, rfl, ?_⟩
      refine ite2 (fun c1 => ?_) (fun c1 => ?_)
      · refine ⟨_, rfl, d, c, rfl, T1, fun x H2 hx T2 K2 => ⟨by show 2 ≤ sizeLine; decide, fun p hp => ?_⟩⟩
        refine k (.ref p) (.num x) _ hx (Nat.zero_le _) (num_dt upd_same) (T2.keep (same_upd hp)) ((K1.trans K2).trans (Kept.of (same_upd hp)))
      have c1 : ¬ r = 0 := fun q => c1 (decide_eq_true (by rw [q]))
      refine ⟨_, rfl, _, _, rfl, rfl, _, rfl, ?_⟩
      refine ite2 (fun c2 => ?_) (fun c2 => ?_)
      · refine ⟨by show 3 ≤ sizeLine; decide, fun l hl => ?_⟩
        refine ⟨_, rfl, d, c, 3, rfl, T1.keep (same_upd hl), by decide, by decide, fun q H2 q0 q1 T2 O2 => ?_⟩
        obtain ⟨x, hx, e⟩ := pick_of (xs := [.str "n", .str "m", .str "k"]) q0 q1
        refine ⟨l, _, _, _, rfl, rfl, SqL.of (by rw [O2 l (T1.ne hl).1]; exact upd_same), e, ?_⟩
        refine ⟨by show 2 ≤ sizeLine; decide, fun p hp => ?_⟩
        have kp0 := (K1.trans (Kept.of (same_upd (o := .lst [.str "n", .str "m", .str "k"]) hl))).trans O2.kept
        have kp : ∀ o, Kept d H (upd H2 p o) := fun o => kp0.trans (Kept.of (same_upd hp))
        simp only [List.mem_cons, List.not_mem_nil, or_false] at hx
        rcases hx with rfl | rfl | rfl
        · exact k (.ref p) (.name "n") _ (.inl rfl) (Nat.zero_le _) (name_dt upd_same) (T2.keep (same_upd hp)) (kp _)
        · exact k (.ref p) (.name "m") _ (.inr (.inl rfl)) (Nat.zero_le _) (name_dt upd_same) (T2.keep (same_upd hp)) (kp _)
        · exact k (.ref p) (.name "k") _ (.inr (.inr rfl)) (Nat.zero_le _) (name_dt upd_same) (T2.keep (same_upd hp)) (kp _)
      have c2 : ¬ r < 3 := fun q => c2 (decide_eq_true q)
      have hm0 : 1 ≤ m := by
        cases m with
        | zero => exact absurd (rm rfl) c2
        | succ m => omega
      refine ⟨by show 7 ≤ sizeLine; decide, fun l hl => ?_⟩
      refine ⟨_, rfl, d, c, 7, rfl, T1.keep (same_upd hl), by decide, by decide, fun q H2 q0 q1 T2 O2 => ?_⟩
      obtain ⟨x, hx, e⟩ := pick_of (xs := [.str "+", .str "-", .str "*", .str "<", .str "==", .str "<", .str "-"]) q0 q1
      refine ⟨l, _, _, _, rfl, rfl, SqL.of (by rw [O2 l (T1.ne hl).1]; exact upd_same), e, ?_⟩
      obtain ⟨sg, rfl, hsg⟩ : ∃ sg : Str, x = .str sg ∧ (sg = "+" ∨ sg = "-" ∨ sg = "*" ∨ sg = "<" ∨ sg = "==") := by
        simp only [List.mem_cons, List.not_mem_nil, or_false] at hx
        rcases hx with rfl | rfl | rfl | rfl | rfl | rfl | rfl
        · exact ⟨_, rfl, .inl rfl⟩
        · exact ⟨_, rfl, .inr (.inl rfl)⟩
        · exact ⟨_, rfl, .inr (.inr (.inl rfl))⟩
        · exact ⟨_, rfl, .inr (.inr (.inr (.inl rfl)))⟩
        · exact ⟨_, rfl, .inr (.inr (.inr (.inr rfl)))⟩
        · exact ⟨_, rfl, .inr (.inr (.inr (.inl rfl)))⟩
        · exact ⟨_, rfl, .inr (.inl rfl)⟩
      have em : ((m : Int) - 1) = ((m - 1 : Nat) : Int) := by omega
      refine ⟨_, rfl, _, rfl, _, rfl, _, _, rfl, rfl, d, c, m - 1, congrArg (fun i => [V.ref d, V.int i]) em, by omega, by omega, T2, fun v3 x3 H3 o3 p3 a3 T3 K3 => ?_⟩
      refine ⟨_, rfl, _, rfl, _, _, rfl, rfl, d, c, m - 1, congrArg (fun i => [V.ref d, V.int i]) em, by omega, by omega, T3, fun v4 x4 H4 o4 p4 a4 T4 K4 => ?_⟩
      refine ⟨by show 3 ≤ sizeLine; decide, fun p hp => ?_⟩
      refine k (.ref p) (.op sg x3 x4) _ ⟨hsg, o3, o4⟩ (by show max x3.dep x4.dep + 1 ≤ m; omega) ?_ (T4.keep (same_upd hp)) (((((K1.trans (Kept.of (same_upd hl))).trans O2.kept).trans K3).trans K4).trans (Kept.of (same_upd hp)))
      exact op_at upd_same (At.keep (same_upd hp) (At.rws (T3.rws K4) a3)) (At.keep (same_upd hp) a4)
end
/-! ### trees are drawn: statements -/
/-- the names that are drawn -/
def Nm (x : Str) : Prop := x = "a" ∨ x = "b" ∨ x = "c" ∨ x = "d" ∨ x = "x" ∨ x = "y" ∨ x = "z" ∨ x = "n" ∨ x = "m" ∨ x = "k" ∨ x = "go" ∨ x = "no" ∨ x = "ask" ∨ x = "p0" ∨ x = "p1"
def Val.wd : Val → Nat
  | .num _ => 3
  | .name _ => 3
  | .op _ a b => 3 + a.wd + b.wd
def fwd : Nat → Nat
  | 0 => 3
  | n + 1 => 3 + fwd n + fwd n
theorem fwd_mono : ∀ {m n : Nat}, m ≤ n → fwd m ≤ fwd n
  | 0, 0, _ => Nat.le_refl _
  | 0, n + 1, _ => by
    have := fwd_mono (Nat.zero_le n)
    show fwd 0 ≤ 3 + fwd n + fwd n
    omega
  | m + 1, n + 1, h => by
    have := fwd_mono (Nat.le_of_succ_le_succ h)
    show 3 + fwd m + fwd m ≤ 3 + fwd n + fwd n
    omega
theorem wd_le : ∀ (x : Val), x.wd ≤ fwd x.dep
  | .num _ => Nat.le_refl _
  | .name _ => Nat.le_refl _
  | .op _ a b => by
    have h1 := Nat.le_trans (wd_le a) (fwd_mono (Nat.le_max_left a.dep b.dep))
    have h2 := Nat.le_trans (wd_le b) (fwd_mono (Nat.le_max_right a.dep b.dep))
    show 3 + a.wd + b.wd ≤ 3 + fwd (max a.dep b.dep) + fwd (max a.dep b.dep)
    omega
mutual
def Stm.wd : Stm → Nat
  | .msg _ _ _ v _ => 9 + v.wd
  | .set _ _ v => 4 + v.wd
  | .ask _ _ => 3
  | .call _ cs => 4 + 2 * cs.length
  | .ite _ v yes no => 4 + v.wd + (2 + blkWd yes) + (2 + blkWd no)
  | .whl _ v b => 3 + v.wd + (2 + blkWd b)
def blkWd : List Stm → Nat
  | [] => 0
  | s :: r => s.wd + blkWd r
end
mutual
def Stm.nst : Stm → Nat
  | .ite _ _ yes no => max (blkNst yes) (blkNst no) + 1
  | .whl _ _ b => blkNst b + 1
  | _ => 0
def blkNst : List Stm → Nat
  | [] => 0
  | s :: r => max s.nst (blkNst r)
end
theorem blkNst_snoc : ∀ {b : List Stm} {s : Stm} {m : Nat}, blkNst b ≤ m → s.nst ≤ m → blkNst (b ++ [s]) ≤ m
  | [], s, m, _, h => by
    show max s.nst 0 ≤ m
    omega
  | x :: r, s, m, hb, h => by
    have hb : max x.nst (blkNst r) ≤ m := hb
    have := blkNst_snoc (b := r) (s := s) (m := m) (by omega) h
    show max x.nst (blkNst (r ++ [s])) ≤ m
    omega
/-- a value that is drawn -/
def VO2 (v : Val) : Prop := VOk v ∧ v.dep ≤ 2
mutual
def SOk : Stm → Prop
  | .msg a b l v x => Nm a ∧ Nm b ∧ Nm l ∧ VO2 v ∧ Nm x
  | .set e x v => Nm e ∧ Nm x ∧ VO2 v
  | .ask e x => Nm e ∧ Nm x
  | .call p cs => Nm p ∧ cs ≠ [] ∧ ∀ e ∈ cs, Nm e
  | .ite e v yes no => Nm e ∧ VO2 v ∧ blkOk yes ∧ blkOk no
  | .whl e v b => Nm e ∧ VO2 v ∧ blkOk b
def blkOk : List Stm → Prop
  | [] => True
  | s :: r => SOk s ∧ blkOk r
end
theorem blkOk_snoc : ∀ {b : List Stm} {s : Stm}, blkOk b → SOk s → blkOk (b ++ [s])
  | [], s, _, h => by
    show SOk s ∧ True
    exact ⟨h, trivial⟩
  | x :: r, s, hb, h => by
    have hb' : SOk x ∧ blkOk r := hb
    show SOk x ∧ blkOk (r ++ [s])
    exact ⟨hb'.1, blkOk_snoc hb'.2 h⟩
theorem blkWd_snoc : ∀ (b : List Stm) (s : Stm), blkWd (b ++ [s]) = blkWd b + s.wd
  | [], s => by
    show s.wd + 0 = 0 + s.wd
    omega
  | x :: r, s => by
    show x.wd + blkWd (r ++ [s]) = x.wd + blkWd r + s.wd
    rw [blkWd_snoc r s]
    omega
def gwd : Nat → Nat
  | 0 => 25
  | n + 1 => 20 + 6 * gwd n
section
variable {P : Program} {w : World} {K : PySem.W.Frag} {mg : Str → Option Value} {base : Heap}
def spTwo : Sp := fun vs H Q _ => ∃ (d c pe : Addr) (es : List Str), vs = [.ref d, .ref pe] ∧ Tape H d c ∧ H pe = some (.tup (es.map V.str)) ∧ 2 ≤ es.length ∧ es.length ≤ 1000 ∧
  ∀ (a b : Str) (p : Addr) H', a ∈ es → b ∈ es → H' p = some (.tup [.str a, .str b]) → Tape H' d c → Kept d H H' → Q (.ref p) H'
theorem str_at {es : List Str} {r : Int} (h0 : 0 ≤ r) (h1 : r < (es.length : Int)) : ∃ x ∈ es, atI (es.map V.str) r = some (.str x) := by
  obtain ⟨i, rfl⟩ := Int.eq_ofNat_of_zero_le h0
  have hi : i < es.length := by omega
  refine ⟨es[i], List.getElem_mem hi, atI_nat ?_⟩
  rw [List.getElem?_map, List.getElem?_eq_getElem hi]
  rfl
theorem ok_law_two {f : Addr} {fd : FuncData} (F : Fun K "_law_two" "_law_two" s__law_two f fd) (T : Txt K mg) {f__law_take : Addr} {d__law_take : FuncData} (c__law_take : Cal P w K mg base 1 "_law_take" ["tape", "many"] spTake f__law_take d__law_take) : FnOk P w K mg base CX0 2 f fd ["tape", "ends"] spTwo := by
  refine F.ok sc__law_two (fun vs H Q E h => ?_) (fun cdv A outer s H vs Q E hr h => ?_)
  · obtain ⟨d, c, pe, es, rfl, _⟩ := h
    rfl
  · obtain ⟨d, c, pe, es, rfl, hT, he, h2, h3, k⟩ := h
    have hT0 := hT
    obtain ⟨ns0, i0, l0, se0, sa0, t0⟩ := id hT
    have ped : pe ≠ d := ne_of he t0.hd (by intro z; cases z)
    refine ⟨_, (pss_cons (ps_set (i := 2) sc__law_two.nd rfl (.inl rfl) (pe_call c__law_take.G (hr.mono (by decide)) (by rfl) c__law_take.m c__law_take.k c__law_take.b .nil pass0 (pa_cons (pv 0) (pa_cons (pe_callB call_len_seq (by rfl) T.len PySem.boot_len (pa_cons (pv 1) pa_nil)) pa_nil))))
      (pss_cons (ps_set (i := 3) sc__law_two.nd rfl (.inl rfl) (pe_call c__law_take.G (hr.mono (by decide)) (by rfl) c__law_take.m c__law_take.k c__law_take.b .nil pass0 (pa_cons (pv 0) (pa_cons (pe_op op_sub (pe_callB call_len_seq (by rfl) T.len PySem.boot_len (pa_cons (pv 1) pa_nil)) pe_int) pa_nil))))
      (pss_one (ps_ret (pe_tup (pa_cons (pe_ix ix_tup (pv 1) (pv 2) (fun _ _ => rfl)) (pa_cons (pe_ix ix_tup (pv 1) (pe_ifExp (pt_cmpR op_lt (pv 3) (pv 2) (nomark _)) (pv 3) (pe_op op_add (pv 3) pe_int)) (fun _ _ => rfl)) pa_nil))))))), ?_⟩
    refine ⟨_, rfl, _, rfl, pe, _, rfl, .inr (SqT.of he), ?_⟩
    rw [List.length_map]
    refine ⟨d, c, (es.length : Int), rfl, hT, by omega, by omega, fun r1 H1 a0 a1 T1 O1 => ?_⟩
    have he1 : H1 pe = some (.tup (es.map V.str)) := by rw [O1 pe ped]; exact he
    refine ⟨_, rfl, _, rfl, pe, _, rfl, .inr (SqT.of he1), _, _, rfl, rfl, ?_⟩
    rw [List.length_map]
    refine ⟨d, c, (es.length : Int) - 1, rfl, T1, by omega, by omega, fun r2 H2 b0 b1 T2 O2 => ?_⟩
    have he2 : H2 pe = some (.tup (es.map V.str)) := by rw [O2 pe ped]; exact he1
    obtain ⟨x, hx, ex⟩ := str_at a0 a1
    refine ⟨_, rfl, _, rfl, pe, _, _, _, rfl, rfl, SqT.of he2, ex, ?_⟩
    refine ⟨_, rfl, _, rfl, _, rfl, _, _, rfl, rfl, _, rfl, ?_⟩
    have fin : ∀ r3 : Int, 0 ≤ r3 → r3 < (es.length : Int) → ∀ {Q1 : V → Hp → Prop}, (∀ y : Str, y ∈ es → Q1 (.str y) H2) → ∃ (a : Addr) (xs : List V) (i : Int) (v : V), V.ref pe = .ref a ∧ V.int r3 = .int i ∧ SqT K H2 a xs ∧ atI xs i = some v ∧ Q1 v H2 := fun r3 c0 c1 Q1 q => by
      obtain ⟨y, hy, ey⟩ := str_at c0 c1
      exact ⟨pe, _, _, _, rfl, rfl, SqT.of he2, ey, q y hy⟩
    have stop : ∀ y : Str, y ∈ es → 2 ≤ sizeLine ∧ ∀ p, H2 p = none → Q (.ref p) (upd H2 p (.tup [.str x, .str y])) := fun y hy => ⟨by decide, fun p hp => k x y p _ hx hy upd_same (T2.keep (same_upd hp)) ((O1.kept.trans O2.kept).trans (Kept.of (same_upd hp)))⟩
    refine ite2 (fun c1 => ?_) (fun c1 => ?_)
    · have c1 : r2 < r1 := of_decide_eq_true c1
      refine ⟨_, rfl, fin r2 b0 (by omega) stop⟩
    · have c1 : ¬ r2 < r1 := fun q => c1 (decide_eq_true q)
      refine ⟨_, rfl, _, _, rfl, rfl, fin (r2 + 1) (by omega) (by omega) stop⟩
/-- a part that is drawn -/
def POk (p : Prt) : Prop := Nm p.name ∧ p.params ≠ [] ∧ (∀ e ∈ p.params, Nm e) ∧ p.params.length ≤ 3 ∧ blkOk p.body ∧ blkNst p.body ≤ 1
/-- what a statement is drawn from -/
structure Src (K : PySem.W.Frag) (H : Hp) (d c pe pl : Addr) (es : List Str) (ps : List Prt) : Prop where
  T : Tape H d c
  he : H pe = some (.tup (es.map V.str))
  e1 : 1 ≤ es.length
  e2 : es.length ≤ 4
  en : es.Nodup
  eo : ∀ e ∈ es, Nm e
  pl : ∃ vs, H pl = some (.lst vs) ∧ AtL K H (ps.map Prt.dt) vs
  po : ∀ p ∈ ps, POk p
  pn : ps.length ≤ 10
theorem Src.next {K : PySem.W.Frag} {H H' : Hp} {d c pe pl : Addr} {es : List Str} {ps : List Prt} (s : Src K H d c pe pl es ps) (T' : Tape H' d c) (q : Kept d H H') : Src K H' d c pe pl es ps := by
  have w := s.T.rws q
  obtain ⟨vs, h1, h2⟩ := s.pl
  exact ⟨T', w.1 _ _ s.he, s.e1, s.e2, s.en, s.eo, ⟨vs, w.2 _ _ h1, AtL.rws w h2⟩, s.po, s.pn⟩
theorem Src.put {K : PySem.W.Frag} {H : Hp} {d c pe pl D : Addr} {es : List Str} {ps : List Prt} {xs ys : List V} (s : Src K H d c pe pl es ps) (hl : H D = some (.lst xs)) (hd : D ≠ d ∧ D ≠ c) (hp : D ≠ pl) : Src K (upd H D (.lst ys)) d c pe pl es ps := by
  obtain ⟨vs, h1, h2⟩ := s.pl
  exact ⟨s.T.put hd, by rw [upd_ne (ne_of s.he hl (by intro z; cases z))]; exact s.he, s.e1, s.e2, s.en, s.eo, ⟨vs, by rw [upd_ne hp.symm]; exact h1, AtL.offL hl (prts_noL ps) h2⟩, s.po, s.pn⟩
def spStm (K : PySem.W.Frag) (n : Nat) : Sp := fun vs H Q _ => ∃ (d c pe pl : Addr) (es : List Str) (ps : List Prt) (m : Nat), vs = [.ref d, .ref pe, .ref pl, .int m] ∧ m < n ∧ m ≤ 1000 ∧ Src K H d c pe pl es ps ∧
  ∀ (v : V) (x : Stm) H', SOk x → (x.wd ≤ gwd m ∧ x.nst ≤ m) → At K H' x.dt v → Tape H' d c → Kept d H H' → Q v H'
def spBlk (K : PySem.W.Frag) (n : Nat) : Sp := fun vs H Q _ => ∃ (d c pe pl : Addr) (es : List Str) (ps : List Prt) (m k : Nat), vs = [.ref d, .ref pe, .ref pl, .int m, .int k] ∧ m < n ∧ m ≤ 1000 ∧ k ≤ 5 ∧ Src K H d c pe pl es ps ∧
  ∀ (v : V) (x : List Stm) H', blkOk x → (blkWd x ≤ k * gwd m ∧ blkNst x ≤ m) → At K H' (blkDt x) v → Tape H' d c → Kept d H H' → Q v H'
theorem stm_none {f : Addr} {fd : FuncData} {ps : List Str} : FnOk P w K mg base CX0 (8+2*0) f fd ps (spStm K 0) := by
  have no : ∀ vs H Q E, ¬ spStm K 0 vs H Q E := fun vs H Q E h => by
    obtain ⟨_, _, _, _, _, _, m, _, h, _⟩ := h
    omega
  exact ⟨fun vs H Q E h => absurd h (no vs H Q E), fun A outer s H args us vs Q E _ _ _ _ h => absurd h (no vs H Q E)⟩
theorem ok_law_block {f : Addr} {fd : FuncData} (F : Fun K "_law_block" "_law_block" s__law_block f fd) (T : Txt K mg) (n : Nat) {f__law_take : Addr} {d__law_take : FuncData} (c__law_take : Cal P w K mg base 1 "_law_take" ["tape", "many"] spTake f__law_take d__law_take) {f__law_statement : Addr} {d__law_statement : FuncData} (c__law_statement : Cal P w K mg base (8+2*n) "_law_statement" ["tape", "ends", "parts", "depth"] (spStm K n) f__law_statement d__law_statement) : FnOk P w K mg base CX0 (8+2*n+1) f fd ["tape", "ends", "parts", "depth", "most"] (spBlk K n) := by
  refine F.ok sc__law_block (fun vs H Q E h => ?_) (fun cdv A outer s H vs Q E hr h => ?_)
  · obtain ⟨d, c, pe, pl, es, ps, m, k, rfl, _⟩ := h
    rfl
  · obtain ⟨d, c, pe, pl, es, ps, m, most, rfl, hm, hm1, hk, S, k⟩ := h
    refine ⟨_, (pss_one (ps_ret (pe_callTy call_tuple_of (by rfl) T.tuple (by decide +kernel) (pa_cons (pe_lc (own := [("k", 5)]) (g := gName 5) (by rfl) sc__law_block.nd (pi_range1 (by rfl) T.range (pa_cons (pe_call c__law_take.G (hr.mono (by omega)) (by rfl) c__law_take.m c__law_take.k c__law_take.b .nil pass0 (pa_cons (pv 0) (pa_cons (pe_op op_add (pv 4) pe_int) pa_nil))) pa_nil)) (blkOk_by (N := ["tape", "ends", "parts", "depth", "most", "k"]) (sc := defScope s__law_block) (by decide +kernel)) (fun _ _ _ _ _ => pg_name (i := 5) sc__law_block.nd rfl (by first | exact Or.inl rfl | exact Or.inr rfl)) (fun _ _ _ _ _ => pts_nil) (fun _ _ _ _ _ => (pe_call c__law_statement.G (hr.mono (by omega)) (by rfl) c__law_statement.m c__law_statement.k c__law_statement.b .nil pass0 (pa_cons (pv 0) (pa_cons (pv 1) (pa_cons (pv 2) (pa_cons (pv 3) pa_nil))))))) pa_nil)))), ?_⟩
    refine ⟨_, rfl, _, rfl, _, _, rfl, rfl, d, c, (most : Int) + 1, rfl, S.T, by omega, by omega, fun r H1 r0 r1 T1 O1 => ?_⟩
    obtain ⟨n1, rfl⟩ := Int.eq_ofNat_of_zero_le r0
    refine ⟨_, rfl, by omega, by omega, fun D nD => ?_⟩
    have S1 := S.next T1 O1.kept
    obtain ⟨pv, hp1, hp2⟩ := id S1.pl
    have Dp : D ≠ pl := (ne_of_none hp1 nD).symm
    have Dd := T1.ne nD
    have nD0 : H D = none := (O1 D Dd.1).symm.trans nD
    refine lc_range (n := n1) (fun i H' => ∃ (xs : List Stm) (vs : List V), H' D = some (.lst vs) ∧ AtL K H' (blkDts xs) vs ∧ blkOk xs ∧ (blkWd xs ≤ i * gwd m ∧ blkNst xs ≤ m) ∧ xs.length = i ∧ Src K H' d c pe pl es ps ∧ Kept d H H')
      ⟨[], [], upd_same, by simp only [blkDts, AtL], trivial, ⟨Nat.zero_le _, Nat.zero_le _⟩, rfl, S1.next (T1.keep (same_upd nD)) (Kept.of (same_upd nD)), O1.kept.upd nD0⟩ ?_ ?_
    · rintro i H2 hi ⟨xs, vs, hD, hat, ho, hw, hl, S2, K2⟩
      refine ⟨rfl, iteT (B := True) ?_⟩
      refine ⟨_, rfl, _, rfl, _, rfl, _, rfl, d, c, pe, pl, es, ps, m, rfl, hm, hm1, S2, fun v x H3 ox wx ax T3 K3 => ?_⟩
      have w3 := S2.T.rws K3
      have hD3 := w3.2 _ _ hD
      refine ⟨vs, hD3, ?_, xs ++ [x], vs ++ [v], upd_same, ?_, blkOk_snoc ho ox, ?_, ?_, (S2.next T3 K3).put hD3 Dd Dp, (K2.trans K3).upd nD0⟩
      · have e1 := hat.length
        have e2 := blkDts_len xs
        rw [e1, e2, hl]
        exact sz6' (by omega)
      · rw [blkDts_snoc]
        exact AtL.snoc (At.offL hD3 (Stm.noL x) ax) (AtL.offL hD3 (blk_noL xs) (AtL.rws w3 hat))
      · refine ⟨?_, blkNst_snoc hw.2 wx.2⟩
        have h1 := hw.1
        have h2 := wx.1
        rw [blkWd_snoc, Nat.succ_mul]
        omega
      · rw [List.length_append, hl]
        rfl
    · rintro H2 ⟨xs, vs, hD, hat, ho, hw, hl, S2, K2⟩
      refine ⟨D, vs, rfl, .inl ⟨SqL.of hD, fun t ht => ?_⟩⟩
      refine k (.ref t) xs _ ho ?_ ?_ (S2.T.keep (same_upd ht)) (K2.trans (Kept.of (same_upd ht)))
      · refine ⟨Nat.le_trans hw.1 (Nat.mul_le_mul_right _ ?_), hw.2⟩
        omega
      · unfold blkDt At
        exact ⟨t, vs, rfl, upd_same, AtL.keep (same_upd ht) hat⟩
end
end OS

namespace OS
open PySem PySem.Spec PyProof.Rows L2
/-! ### what drawing parts wants -/
theorem nodup_len : ∀ {es cs : List Str}, es.Nodup → (∀ e ∈ es, e ∈ cs) → es.length ≤ cs.length
  | [], _, _, _ => Nat.zero_le _
  | e :: r, cs, hn, hs => by
    rw [List.nodup_cons] at hn
    have h1 := hs e (List.mem_cons_self ..)
    have h2 := nodup_len (es := r) (cs := cs.erase e) hn.2 fun x hx => (List.mem_erase_of_ne (fun (q : x = e) => hn.1 (by rw [← q]; exact hx))).mpr (hs x (List.mem_cons_of_mem _ hx))
    rw [List.length_erase_of_mem h1] at h2
    have := List.length_pos_of_mem h1
    rw [List.length_cons]
    omega
theorem AtL.inv {K : PySem.W.Frag} {H : Hp} : ∀ {ds : List Dt} {vs : List V} {i : Nat} {v : V}, AtL K H ds vs → vs[i]? = some v → ∃ d, ds[i]? = some d ∧ At K H d v
  | [], vs, i, v, h, e => by
    unfold AtL at h
    subst h
    simp at e
  | d :: ds, vs, 0, v, h, e => by
    unfold AtL at h
    obtain ⟨u, r, rfl, hd, _⟩ := h
    have e : u = v := Option.some.inj e
    subst e
    exact ⟨d, rfl, hd⟩
  | d :: ds, vs, i + 1, v, h, e => by
    unfold AtL at h
    obtain ⟨u, r, rfl, _, h⟩ := h
    exact AtL.inv (ds := ds) (vs := r) (i := i) h e
theorem flat_inv {K : PySem.W.Frag} {H : Hp} : ∀ {es : List Str} {vs : List V}, AtL K H (es.map Dt.str) vs → vs = es.map V.str
  | [], vs, h => by
    simp only [List.map_nil, AtL] at h
    exact h
  | e :: r, vs, h => by
    rw [List.map_cons] at h
    unfold AtL At at h
    obtain ⟨v, q, rfl, rfl, h⟩ := h
    rw [List.map_cons, flat_inv h]
theorem names_inv {K : PySem.W.Frag} {H : Hp} {es : List Str} {v : V} (h : At K H (namesDt es) v) : ∃ q, v = .ref q ∧ H q = some (.tup (es.map V.str)) := by
  unfold namesDt At at h
  obtain ⟨p, vs, rfl, hp, hl⟩ := h
  rw [flat_inv hl] at hp
  exact ⟨p, rfl, hp⟩
theorem prt_inv {K : PySem.W.Frag} {H : Hp} {p : Prt} {v : V} (h : At K H p.dt v) : ∃ a q u, v = .ref a ∧ H a = some (.tup [.str p.name, .ref q, u]) ∧ H q = some (.tup (p.params.map V.str)) ∧ At K H (blkDt p.body) u := by
  unfold Prt.dt at h
  rw [At] at h
  obtain ⟨a, vs, rfl, ha, hl⟩ := h
  simp only [AtL] at hl
  obtain ⟨v1, r1, rfl, h1, v2, r2, rfl, h2, v3, r3, rfl, h3, rfl⟩ := hl
  unfold At at h1
  subst h1
  obtain ⟨q, rfl, hq⟩ := names_inv h2
  exact ⟨a, q, v3, rfl, ha, hq, h3⟩
mutual
def Dt.py : Dt → PyData
  | .non => .none
  | .bl b => .bool b
  | .int i => .int i
  | .str x => .str x
  | .tup xs => .tuple (pys xs)
  | .lst xs => .list (pys xs)
def pys : List Dt → List PyData
  | [] => []
  | d :: r => d.py :: pys r
end
mutual
theorem At.dp {K : PySem.W.Frag} {H : Hp} : ∀ {d : Dt} {v : V}, At K H d v → Dp K H v d.py
  | .non, v, h => by unfold At at h; subst h; exact .non
  | .bl b, v, h => by unfold At at h; subst h; exact .bl b
  | .int i, v, h => by unfold At at h; subst h; exact .int i
  | .str x, v, h => by unfold At at h; subst h; exact .str x
  | .tup xs, v, h => by
    unfold At at h
    obtain ⟨p, vs, rfl, hp, hl⟩ := h
    exact .tup (SqT.of hp) (AtL.dp hl)
  | .lst xs, v, h => by
    unfold At at h
    obtain ⟨p, vs, rfl, hp, hl⟩ := h
    exact .lst (SqL.of hp) (AtL.dp hl)
theorem AtL.dp {K : PySem.W.Frag} {H : Hp} : ∀ {ds : List Dt} {vs : List V}, AtL K H ds vs → DpAll K H vs (pys ds)
  | [], vs, h => by unfold AtL at h; subst h; exact .nil
  | d :: ds, vs, h => by
    unfold AtL at h
    obtain ⟨v, r, rfl, hd, hl⟩ := h
    exact .cons (At.dp hd) (AtL.dp hl)
end
/-- a list against the empty one -/
theorem op_eqN {X : Cx} (hu : X.A.units + 64 < cLine) : OpR X (compareOp .Eq) (fun x y H Q => ∃ a b xs ds, x = .ref a ∧ y = .ref b ∧ SqL X.K H a xs ∧ AtL X.K H ds xs ∧ PyData.canLayAll0 (pys ds) = true ∧ SqL X.K H b [] ∧ Q (.bl ds.isEmpty) H) := by
  intro pins s σ H x y v u Q I rx ry h
  obtain ⟨a, b, xs, ds, rfl, rfl, hq, hd, hc, hb, q⟩ := h
  obtain ⟨as, r1⟩ := Dp.reads I (.list (pys ds)) (.ref a) v (.lst hq (AtL.dp hd)) rx
  obtain ⟨bs, r2⟩ := Dp.reads I (.list []) (.ref b) u (.lst hb .nil) ry
  refine SeqAt.compareEq_reads r1 r2 hc rfl ?_ ⟨.bl _, H, I, ?_, q⟩
  · have h2 : min (PyData.list (pys ds)).depth (PyData.list []).depth ≤ (PyData.list []).depth := Nat.min_le_right _ _
    have h3 : (PyData.list []).depth ≤ 64 := by decide
    omega
  · cases ds <;> rfl
theorem lay_int (i : Int) : (Dt.int i).py.canLay0 = true := by simp [Dt.py, PyData.canLay0]
theorem lay_str {x : Str} (h : PyData.strOk x = true) : (Dt.str x).py.canLay0 = true := by simp [Dt.py, PyData.canLay0, h]
theorem lay_tup {xs : List Dt} (h : PyData.canLayAll0 (pys xs) = true) : (Dt.tup xs).py.canLay0 = true := by simp [Dt.py, PyData.canLay0, h]
theorem lay_nil : PyData.canLayAll0 (pys []) = true := by simp [pys, PyData.canLayAll0]
theorem lay_cons {d : Dt} {r : List Dt} (h : d.py.canLay0 = true) (hr : PyData.canLayAll0 (pys r) = true) : PyData.canLayAll0 (pys (d :: r)) = true := by
  rw [pys, PyData.canLayAll0, h, hr]
  rfl
theorem nm_ok {x : Str} (h : Nm x) : PyData.strOk x = true := by
  unfold Nm at h
  rcases h with rfl | rfl | rfl | rfl | rfl | rfl | rfl | rfl | rfl | rfl | rfl | rfl | rfl | rfl | rfl <;> decide +kernel
theorem lay_names : ∀ {es : List Str}, (∀ e ∈ es, Nm e) → PyData.canLayAll0 (pys (es.map Dt.str)) = true
  | [], _ => lay_nil
  | e :: r, h => lay_cons (lay_str (nm_ok (h e (List.mem_cons_self ..)))) (lay_names fun x hx => h x (List.mem_cons_of_mem _ hx))
theorem val_lay : ∀ (x : Val), VOk x → x.dt.py.canLay0 = true
  | .num n, _ => by
    unfold Val.dt
    exact lay_tup (lay_cons (lay_str (by decide +kernel)) (lay_cons (lay_int n) lay_nil))
  | .name x, h => by
    have h' : x = "n" ∨ x = "m" ∨ x = "k" := h
    unfold Val.dt
    refine lay_tup (lay_cons (lay_str (by decide +kernel)) (lay_cons (lay_str ?_) lay_nil))
    rcases h' with rfl | rfl | rfl <;> decide +kernel
  | .op s a b, h => by
    obtain ⟨h1, h2, h3⟩ : (s = "+" ∨ s = "-" ∨ s = "*" ∨ s = "<" ∨ s = "==") ∧ VOk a ∧ VOk b := h
    unfold Val.dt
    refine lay_tup (lay_cons (lay_str ?_) (lay_cons (val_lay a h2) (lay_cons (val_lay b h3) lay_nil)))
    rcases h1 with rfl | rfl | rfl | rfl | rfl <;> decide +kernel
mutual
theorem stm_lay : ∀ (x : Stm), SOk x → x.dt.py.canLay0 = true
  | .msg a b l v x, h => by
    obtain ⟨h1, h2, h3, h4, h5⟩ : Nm a ∧ Nm b ∧ Nm l ∧ VO2 v ∧ Nm x := h
    unfold Stm.dt
    exact lay_tup (lay_cons (lay_str (by decide +kernel)) (lay_cons (lay_str (nm_ok h1)) (lay_cons (lay_str (nm_ok h2)) (lay_cons (lay_str (nm_ok h3)) (lay_cons (val_lay v h4.1) (lay_cons (lay_str (nm_ok h5)) lay_nil))))))
  | .set e x v, h => by
    obtain ⟨h1, h2, h4⟩ : Nm e ∧ Nm x ∧ VO2 v := h
    unfold Stm.dt
    exact lay_tup (lay_cons (lay_str (by decide +kernel)) (lay_cons (lay_str (nm_ok h1)) (lay_cons (lay_str (nm_ok h2)) (lay_cons (val_lay v h4.1) lay_nil))))
  | .ask e x, h => by
    obtain ⟨h1, h2⟩ : Nm e ∧ Nm x := h
    unfold Stm.dt
    exact lay_tup (lay_cons (lay_str (by decide +kernel)) (lay_cons (lay_str (nm_ok h1)) (lay_cons (lay_str (nm_ok h2)) lay_nil)))
  | .call p cs, h => by
    obtain ⟨h1, _, h2⟩ : Nm p ∧ cs ≠ [] ∧ ∀ e ∈ cs, Nm e := h
    unfold Stm.dt namesDt
    exact lay_tup (lay_cons (lay_str (by decide +kernel)) (lay_cons (lay_str (nm_ok h1)) (lay_cons (lay_tup (lay_names h2)) lay_nil)))
  | .ite e v yes no, h => by
    obtain ⟨h1, h2, h3, h4⟩ : Nm e ∧ VO2 v ∧ blkOk yes ∧ blkOk no := h
    unfold Stm.dt
    exact lay_tup (lay_cons (lay_str (by decide +kernel)) (lay_cons (lay_str (nm_ok h1)) (lay_cons (val_lay v h2.1) (lay_cons (lay_tup (blk_lay yes h3)) (lay_cons (lay_tup (blk_lay no h4)) lay_nil)))))
  | .whl e v b, h => by
    obtain ⟨h1, h2, h3⟩ : Nm e ∧ VO2 v ∧ blkOk b := h
    unfold Stm.dt
    exact lay_tup (lay_cons (lay_str (by decide +kernel)) (lay_cons (lay_str (nm_ok h1)) (lay_cons (val_lay v h2.1) (lay_cons (lay_tup (blk_lay b h3)) lay_nil))))
theorem blk_lay : ∀ (b : List Stm), blkOk b → PyData.canLayAll0 (pys (blkDts b)) = true
  | [], _ => by unfold blkDts; exact lay_nil
  | s :: r, h => by
    obtain ⟨h1, h2⟩ : SOk s ∧ blkOk r := h
    unfold blkDts
    exact lay_cons (stm_lay s h1) (blk_lay r h2)
end
theorem prts_lay : ∀ {ps : List Prt}, (∀ p ∈ ps, POk p) → PyData.canLayAll0 (pys (ps.map Prt.dt)) = true
  | [], _ => lay_nil
  | p :: r, h => by
    obtain ⟨h1, _, h2, _, h3, _⟩ := h p (List.mem_cons_self ..)
    refine lay_cons ?_ (prts_lay fun x hx => h x (List.mem_cons_of_mem _ hx))
    unfold Prt.dt namesDt blkDt
    exact lay_tup (lay_cons (lay_str (nm_ok h1)) (lay_cons (lay_tup (lay_names h2)) (lay_cons (lay_tup (blk_lay _ h3)) lay_nil)))
theorem gwd_ge : ∀ m : Nat, 25 ≤ gwd m
  | 0 => Nat.le_refl _
  | m + 1 => by
    have := gwd_ge m
    show 25 ≤ 20 + 6 * gwd m
    omega
section
variable {P : Program} {w : World} {K : PySem.W.Frag} {mg : Str → Option Value} {base : Heap}
theorem ok_law_statement {f : Addr} {fd : FuncData} (F : Fun K "_law_statement" "_law_statement" s__law_statement f fd) (T : Txt K mg) (n : Nat) {f__law_take : Addr} {d__law_take : FuncData} (c__law_take : Cal P w K mg base 1 "_law_take" ["tape", "many"] spTake f__law_take d__law_take) {f__law_two : Addr} {d__law_two : FuncData} (c__law_two : Cal P w K mg base 2 "_law_two" ["tape", "ends"] spTwo f__law_two d__law_two) {f__law_value : Addr} {d__law_value : FuncData} (c__law_value : Cal P w K mg base 6 "_law_value" ["tape", "depth"] (spVal K 3) f__law_value d__law_value) {f__law_block : Addr} {d__law_block : FuncData} (c__law_block : Cal P w K mg base (8+2*n+1) "_law_block" ["tape", "ends", "parts", "depth", "most"] (spBlk K n) f__law_block d__law_block) : FnOk P w K mg base CX0 (8+2*n+2) f fd ["tape", "ends", "parts", "depth"] (spStm K (n+1)) := by
  refine F.ok sc__law_statement (fun vs H Q E h => ?_) (fun cdv A outer s H vs Q E hr h => ?_)
  · obtain ⟨d, c, pe, pl, es, ps, m, rfl, _⟩ := h
    rfl
  · obtain ⟨d, c, pe, pl, es, ps, m, rfl, hm, hm1, S, k⟩ := h
    refine ⟨_, (Evl.pss_cut (ps_set (i := 4) sc__law_statement.nd rfl (.inl rfl) (pe_ifExp (pt_cmpR op_gt (pv 3) pe_int (nomark _)) (pe_call c__law_take.G (hr.mono (by omega)) (by rfl) c__law_take.m c__law_take.k c__law_take.b .nil pass0 (pa_cons (pv 0) (pa_cons pe_int pa_nil))) (pe_call c__law_take.G (hr.mono (by omega)) (by rfl) c__law_take.m c__law_take.k c__law_take.b .nil pass0 (pa_cons (pv 0) (pa_cons pe_int pa_nil)))))
      (pss_cons (ps_set (i := 5) sc__law_statement.nd rfl (.inl rfl) (pe_ix ix_list (pe_lst (pa_cons pe_str (pa_cons pe_str (pa_cons pe_str pa_nil)))) (pe_call c__law_take.G (hr.mono (by omega)) (by rfl) c__law_take.m c__law_take.k c__law_take.b .nil pass0 (pa_cons (pv 0) (pa_cons pe_int pa_nil))) (fun _ _ => rfl)))
      (pss_cons (ps_set (i := 6) sc__law_statement.nd rfl (.inl rfl) (pe_ix ix_tup (pv 1) (pe_call c__law_take.G (hr.mono (by omega)) (by rfl) c__law_take.m c__law_take.k c__law_take.b .nil pass0 (pa_cons (pv 0) (pa_cons (pe_callB call_len_seq (by rfl) T.len PySem.boot_len (pa_cons (pv 1) pa_nil)) pa_nil))) (fun _ _ => rfl)))
      (Evl.pss_cut (ps_if (PW.pt (pw_and (pt_cmpR op_lt (pv 4) pe_int (nomark _)) (pw_and1 (pt_cmpR op_gt (pe_callB call_len_seq (by rfl) T.len PySem.boot_len (pa_cons (pv 1) pa_nil)) pe_int (nomark _))))) (pss_cons (ps_asg (pe_call c__law_two.G (hr.mono (by omega)) (by rfl) c__law_two.m c__law_two.k c__law_two.b .nil pass0 (pa_cons (pv 0) (pa_cons (pv 1) pa_nil))) (pg_tup (by rfl) (pgs_cons (pg_name (i := 7) sc__law_statement.nd rfl (.inl rfl)) (pgs_cons (pg_name (i := 8) sc__law_statement.nd rfl (.inl rfl)) pgs_nil))))
      (pss_cons (ps_set (i := 9) sc__law_statement.nd rfl (.inl rfl) (pe_ix ix_list (pe_lst (pa_cons pe_str (pa_cons pe_str (pa_cons pe_str pa_nil)))) (pe_call c__law_take.G (hr.mono (by omega)) (by rfl) c__law_take.m c__law_take.k c__law_take.b .nil pass0 (pa_cons (pv 0) (pa_cons pe_int pa_nil))) (fun _ _ => rfl)))
      (pss_one (ps_ret (pe_tup (pa_cons pe_str (pa_cons (pv 7) (pa_cons (pv 8) (pa_cons (pv 9) (pa_cons (pe_call c__law_value.G (hr.mono (by omega)) (by rfl) c__law_value.m c__law_value.k c__law_value.b .nil pass0 (pa_cons (pv 0) (pa_cons pe_int pa_nil))) (pa_cons (pv 5) pa_nil))))))))))) pss_nil)
      (pss_cons (ps_if (PW.pt (pw_or (pt_cmpR op_eq (pv 4) pe_int (nomark _)) (pw_or1 (pt_cmpR op_lt (pv 4) pe_int (nomark _))))) (pss_one (ps_ret (pe_tup (pa_cons pe_str (pa_cons (pv 6) (pa_cons (pv 5) (pa_cons (pe_call c__law_value.G (hr.mono (by omega)) (by rfl) c__law_value.m c__law_value.k c__law_value.b .nil pass0 (pa_cons (pv 0) (pa_cons pe_int pa_nil))) pa_nil))))))) pss_nil)
      (pss_cons (ps_if (pt_cmpR op_eq (pv 4) pe_int (nomark _)) (pss_one (ps_ret (pe_tup (pa_cons pe_str (pa_cons (pv 6) (pa_cons (pv 5) pa_nil)))))) pss_nil)
      (pss_cons (ps_if (pt_cmpR op_eq (pv 4) pe_int (nomark _)) (pss_cons (ps_setLc (i := 11) (own := [("part", 10)]) (g := gName 10) (by rfl) sc__law_statement.nd rfl rfl (sw_true rfl rfl rfl (by decide +kernel)) (pi_list (pv 2)) (blkOk_by (N := ["tape", "ends", "parts", "depth", "choice", "variable", "end", "sender", "receiver", "label", "part", "fitting", "chosen", "k", "rest", "yes", "name"]) (sc := defScope s__law_statement) (by decide +kernel)) (fun _ _ _ _ _ => pg_name (i := 10) sc__law_statement.nd rfl (by first | exact Or.inl rfl | exact Or.inr rfl)) (fun _ _ _ _ _ => (pts_one (pt_cmpR op_le (pe_callB (show CallR _ (.builtin "len") (fun xs H Q => ∃ p ys, xs = [.ref p] ∧ (SqL K H p ys ∨ SqT K H p ys) ∧ Q (.int ys.length) H) from call_len_seq) (by rfl) T.len PySem.boot_len (pa_cons (pe_ix (show IxR _ (rIxT K) from ix_tup) (pv 10) pe_int (fun _ _ => rfl)) pa_nil)) (pe_callB (show CallR _ (.builtin "len") (fun xs H Q => ∃ p ys, xs = [.ref p] ∧ (SqL K H p ys ∨ SqT K H p ys) ∧ Q (.int ys.length) H) from call_len_seq) (by rfl) T.len PySem.boot_len (pa_cons (pv 1) pa_nil)) (nomark _)))) (fun _ _ _ _ _ => (pv 10)))
      (pss_cons (ps_if (pt_cmpR (op_eqN hr.units) (pv 11) (pe_lst pa_nil) (nomark _)) (pss_one (ps_ret (pe_tup (pa_cons pe_str (pa_cons (pv 6) (pa_cons (pv 5) pa_nil)))))) pss_nil)
      (pss_cons (ps_set (i := 10) sc__law_statement.nd rfl (.inl rfl) (pe_ix ix_list (pv 11) (pe_call c__law_take.G (hr.mono (by omega)) (by rfl) c__law_take.m c__law_take.k c__law_take.b .nil pass0 (pa_cons (pv 0) (pa_cons (pe_callB call_len_seq (by rfl) T.len PySem.boot_len (pa_cons (pv 11) pa_nil)) pa_nil))) (fun _ _ => rfl)))
      (pss_cons (ps_set (i := 12) sc__law_statement.nd rfl (.inr rfl) (pe_lst pa_nil))
      (pss_cons (ps_for PassesOwn.never rfl (pi_range1 (by rfl) T.range (pa_cons (pe_callB call_len_seq (by rfl) T.len PySem.boot_len (pa_cons (pe_ix ix_tup (pv 10) pe_int (fun _ _ => rfl)) pa_nil)) pa_nil)) (pg_name (i := 13) sc__law_statement.nd rfl (.inl rfl)) (pss_cons (ps_setLc (i := 14) (own := [("name", 16)]) (g := gName 16) (by rfl) sc__law_statement.nd rfl rfl (sw_true rfl rfl rfl (by decide +kernel)) (pi_tup (pv 1)) (blkOk_by (N := ["tape", "ends", "parts", "depth", "choice", "variable", "end", "sender", "receiver", "label", "part", "fitting", "chosen", "k", "rest", "yes", "name"]) (sc := defScope s__law_statement) (by decide +kernel)) (fun _ _ _ _ _ => pg_name (i := 16) sc__law_statement.nd rfl (by first | exact Or.inl rfl | exact Or.inr rfl)) (fun _ _ _ _ _ => (pts_one (pt_cmpR (show OpR _ (compareOp CmpOp.NotIn) (rIn K true) from op_notIn_seq) (pv 16) (pv 12) (by rfl)))) (fun _ _ _ _ _ => (pv 16)))
      (pss_one (ps_expr (pe_bm PySem.F.plainAttrs_list PySem.F.slot_list_append PySem.F.type_list_append mt_append (pv 12) (pa_cons (pe_ix ix_list (pv 14) (pe_call c__law_take.G (hr.mono (by omega)) (by rfl) c__law_take.m c__law_take.k c__law_take.b .nil pass0 (pa_cons (pv 0) (pa_cons (pe_callB call_len_seq (by rfl) T.len PySem.boot_len (pa_cons (pv 14) pa_nil)) pa_nil))) (fun _ _ => rfl)) pa_nil))))))
      (pss_one (ps_ret (pe_tup (pa_cons pe_str (pa_cons (pe_ix ix_tup (pv 10) pe_int (fun _ _ => rfl)) (pa_cons (pe_callTy call_tuple_of (by rfl) T.tuple (by decide +kernel) (pa_cons (pv 12) pa_nil)) pa_nil))))))))))) pss_nil)
      (pss_cons (ps_if (pt_cmpR op_lt (pv 4) pe_int (nomark _)) (pss_cons (ps_set (i := 15) sc__law_statement.nd rfl (.inl rfl) (pe_call c__law_block.G (hr.mono (by omega)) (by rfl) c__law_block.m c__law_block.k c__law_block.b .nil pass0 (pa_cons (pv 0) (pa_cons (pv 1) (pa_cons (pv 2) (pa_cons (pe_op op_sub (pv 3) pe_int) (pa_cons pe_int pa_nil)))))))
      (pss_one (ps_ret (pe_tup (pa_cons pe_str (pa_cons (pv 6) (pa_cons (pe_call c__law_value.G (hr.mono (by omega)) (by rfl) c__law_value.m c__law_value.k c__law_value.b .nil pass0 (pa_cons (pv 0) (pa_cons pe_int pa_nil))) (pa_cons (pv 15) (pa_cons (pe_call c__law_block.G (hr.mono (by omega)) (by rfl) c__law_block.m c__law_block.k c__law_block.b .nil pass0 (pa_cons (pv 0) (pa_cons (pv 1) (pa_cons (pv 2) (pa_cons (pe_op op_sub (pv 3) pe_int) (pa_cons pe_int pa_nil)))))) pa_nil))))))))) pss_nil)
      (pss_one (ps_ret (pe_tup (pa_cons pe_str (pa_cons (pv 6) (pa_cons (pe_call c__law_value.G (hr.mono (by omega)) (by rfl) c__law_value.m c__law_value.k c__law_value.b .nil pass0 (pa_cons (pv 0) (pa_cons pe_int pa_nil))) (pa_cons (pe_call c__law_block.G (hr.mono (by omega)) (by rfl) c__law_block.m c__law_block.k c__law_block.b .nil pass0 (pa_cons (pv 0) (pa_cons (pv 1) (pa_cons (pv 2) (pa_cons (pe_op op_sub (pv 3) pe_int) (pa_cons pe_int pa_nil)))))) pa_nil))))))))))))))), ?_⟩
    refine ⟨fun σ H1 => ∃ r : Int, σ = [some (.ref d), some (.ref pe), some (.ref pl), some (.int m), some (.int r), none, none, none, none, none, none, none, none, none, none, none, none] ∧ 0 ≤ r ∧ (m = 0 → r < 8) ∧ Src K H1 d c pe pl es ps ∧ Kept d H H1, ?_, ?_⟩
    · refine ⟨_, rfl, _, _, rfl, rfl, _, rfl, ?_⟩
      refine ite2 (fun c1 => ?_) (fun c1 => ?_)
      · have c1 : (0 : Int) < m := of_decide_eq_true c1
        refine ⟨_, rfl, d, c, 12, rfl, S.T, by decide, by decide, fun r H1 r0 r1 T1 O1 => ?_⟩
        exact ⟨r, rfl, r0, fun q => by omega, S.next T1 O1.kept, O1.kept⟩
      · refine ⟨_, rfl, d, c, 8, rfl, S.T, by decide, by decide, fun r H1 r0 r1 T1 O1 => ?_⟩
        exact ⟨r, rfl, r0, fun q => r1, S.next T1 O1.kept, O1.kept⟩
    · rintro σ H1 ⟨r, rfl, r0, rm, S1, K1⟩
      refine ⟨by show 3 ≤ sizeLine; decide, fun l hl => ?_⟩
      refine ⟨_, rfl, d, c, 3, rfl, S1.T.keep (same_upd hl), by decide, by decide, fun q H2 q0 q1 T2 O2 => ?_⟩
      obtain ⟨x, hx, e⟩ := pick_of (xs := [.str "n", .str "m", .str "k"]) q0 q1
      refine ⟨l, _, _, _, rfl, rfl, SqL.of (by rw [O2 l (S1.T.ne hl).1]; exact upd_same), e, ?_⟩
      obtain ⟨vr, rfl, hvr⟩ : ∃ sg : Str, x = .str sg ∧ Nm sg := by
        simp only [List.mem_cons, List.not_mem_nil, or_false] at hx
        rcases hx with rfl | rfl | rfl
        · exact ⟨_, rfl, by unfold Nm; simp⟩
        · exact ⟨_, rfl, by unfold Nm; simp⟩
        · exact ⟨_, rfl, by unfold Nm; simp⟩
      have K02 := (Kept.of (d := d) (same_upd (o := .lst [.str "n", .str "m", .str "k"]) hl)).trans O2.kept
      have S2 := S1.next T2 K02
      have K2 := K1.trans K02
      refine ⟨_, rfl, _, rfl, _, rfl, pe, _, rfl, .inr (SqT.of S2.he), ?_⟩
      rw [List.length_map]
      have b1 := S2.e1
      have b2 := S2.e2
      refine ⟨d, c, (es.length : Int), rfl, S2.T, by omega, by omega, fun q3 H3 c0 c1 T3 O3 => ?_⟩
      have S3 := S2.next T3 O3.kept
      have K3 := K2.trans O3.kept
      obtain ⟨en, hen, een⟩ := str_at c0 c1
      have hn := S3.eo _ hen
      refine ⟨pe, _, _, _, rfl, rfl, SqT.of S3.he, een, ?_⟩
      -- choice < 5 and len(ends) > 1
      refine ⟨fun σ H4 => σ = [some (.ref d), some (.ref pe), some (.ref pl), some (.int m), some (.int r), some (.str vr), some (.str en), none, none, none, none, none, none, none, none, none, none] ∧ ¬ (r < 5 ∧ 1 < es.length) ∧ H4 = H3, ?_, ?_⟩
      · refine ⟨_, rfl, _, _, rfl, rfl, _, rfl, ?_⟩
        refine ite2 (fun c1 => ?_) (fun c1 => ?_)
        · refine ⟨_, rfl, pe, _, rfl, .inr (SqT.of S3.he), ?_⟩
          rw [List.length_map]
          refine ⟨_, _, rfl, rfl, _, rfl, ?_⟩
          refine ite2 (fun c2 => ?_) (fun c2 => ?_)
          · have c2 : (1 : Int) < (es.length : Int) := of_decide_eq_true c2
            refine ⟨_, rfl, _, rfl, d, c, pe, es, rfl, S3.T, S3.he, by omega, by omega, fun a b p H4 ha hb hp T4 K4 => ?_⟩
            have S4 := S3.next T4 K4
            refine ⟨p, _, rfl, SqT.of hp, rfl, _, _, rfl, _, _, rfl, rfl, ?_⟩
            refine ⟨by show 3 ≤ sizeLine; decide, fun l5 hl5 => ?_⟩
            refine ⟨_, rfl, d, c, 3, rfl, S4.T.keep (same_upd hl5), by decide, by decide, fun q6 H6 u0 u1 T6 O6 => ?_⟩
            obtain ⟨x, hx, e⟩ := pick_of (xs := [.str "go", .str "no", .str "ask"]) u0 u1
            refine ⟨l5, _, _, _, rfl, rfl, SqL.of (by rw [O6 l5 (S4.T.ne hl5).1]; exact upd_same), e, ?_⟩
            obtain ⟨lb, rfl, hlb⟩ : ∃ sg : Str, x = .str sg ∧ Nm sg := by
              simp only [List.mem_cons, List.not_mem_nil, or_false] at hx
              rcases hx with rfl | rfl | rfl
              · exact ⟨_, rfl, by unfold Nm; simp⟩
              · exact ⟨_, rfl, by unfold Nm; simp⟩
              · exact ⟨_, rfl, by unfold Nm; simp⟩
            have K46 := (Kept.of (d := d) (same_upd (o := .lst [.str "go", .str "no", .str "ask"]) hl5)).trans O6.kept
            have S6 := S4.next T6 K46
            refine ⟨_, rfl, _, rfl, _, rfl, _, rfl, d, c, 1, rfl, by decide, by decide, S6.T, fun v7 x7 H7 o7 d7 a7 T7 K7 => ?_⟩
            refine ⟨_, rfl, by show 6 ≤ sizeLine; decide, fun t ht => ?_⟩
            refine k (.ref t) (.msg a b lb x7 vr) _ ⟨S3.eo _ ha, S3.eo _ hb, hlb, ⟨o7, by omega⟩, hvr⟩ ?_ ?_ (T7.keep (same_upd ht)) (((((K3.trans K4).trans K46).trans K7).trans (Kept.of (same_upd ht))))
            · refine ⟨?_, Nat.zero_le _⟩
              have e1 := Nat.le_trans (wd_le x7) (fwd_mono d7)
              have e2 := gwd_ge m
              have e3 : fwd 1 = 9 := rfl
              show 9 + x7.wd ≤ gwd m
              omega
            · unfold Stm.dt
              rw [At]
              refine ⟨t, _, rfl, upd_same, ?_⟩
              simp only [AtL]
              exact ⟨_, _, rfl, by unfold At; rfl, _, _, rfl, by unfold At; rfl, _, _, rfl, by unfold At; rfl, _, _, rfl, by unfold At; rfl, _, _, rfl, At.keep (same_upd ht) a7, _, _, rfl, by unfold At; rfl, rfl⟩
          · have c2 : ¬ (1 : Int) < (es.length : Int) := fun q => c2 (decide_eq_true q)
            exact ⟨rfl, fun q => by omega, rfl⟩
        · have c1 : ¬ r < 5 := fun q => c1 (decide_eq_true q)
          exact ⟨rfl, fun q => c1 q.1, rfl⟩
      · rintro σ H4 ⟨rfl, nb, rfl⟩
        refine ⟨_, rfl, rfl, _, rfl, ?_⟩
        rcases (by omega : r = 5 ∨ r < 5 ∨ 5 < r) with c5 | c5 | c5
        · rw [decide_eq_true (show V.int r = V.int 5 by rw [c5])]
          refine iteT (iteT ?_)
          refine ⟨_, rfl, _, rfl, _, rfl, d, c, 2, rfl, by decide, by decide, S3.T, fun v7 x7 H7 o7 d7 a7 T7 K7 => ?_⟩
          refine ⟨by show 4 ≤ sizeLine; decide, fun t ht => ?_⟩
          refine k (.ref t) (.set en vr x7) _ ⟨hn, hvr, o7, d7⟩ ?_ ?_ (T7.keep (same_upd ht)) ((K3.trans K7).trans (Kept.of (same_upd ht)))
          · refine ⟨?_, Nat.zero_le _⟩
            have e1 := Nat.le_trans (wd_le x7) (fwd_mono d7)
            have e2 := gwd_ge m
            have e3 : fwd 2 = 21 := rfl
            show 4 + x7.wd ≤ gwd m
            omega
          · unfold Stm.dt
            rw [At]
            refine ⟨t, _, rfl, upd_same, ?_⟩
            simp only [AtL]
            exact ⟨_, _, rfl, by unfold At; rfl, _, _, rfl, by unfold At; rfl, _, _, rfl, by unfold At; rfl, _, _, rfl, At.keep (same_upd ht) a7, rfl⟩
        · rw [decide_eq_false (show ¬ V.int r = V.int 5 from fun q => by injection q; omega)]
          refine iteF ⟨_, rfl, _, _, rfl, rfl, _, rfl, ?_⟩
          rw [decide_eq_true c5]
          refine iteT ?_
          refine ⟨_, rfl, _, rfl, _, rfl, d, c, 2, rfl, by decide, by decide, S3.T, fun v7 x7 H7 o7 d7 a7 T7 K7 => ?_⟩
          refine ⟨by show 4 ≤ sizeLine; decide, fun t ht => ?_⟩
          refine k (.ref t) (.set en vr x7) _ ⟨hn, hvr, o7, d7⟩ ?_ ?_ (T7.keep (same_upd ht)) ((K3.trans K7).trans (Kept.of (same_upd ht)))
          · refine ⟨?_, Nat.zero_le _⟩
            have e1 := Nat.le_trans (wd_le x7) (fwd_mono d7)
            have e2 := gwd_ge m
            have e3 : fwd 2 = 21 := rfl
            show 4 + x7.wd ≤ gwd m
            omega
          · unfold Stm.dt
            rw [At]
            refine ⟨t, _, rfl, upd_same, ?_⟩
            simp only [AtL]
            exact ⟨_, _, rfl, by unfold At; rfl, _, _, rfl, by unfold At; rfl, _, _, rfl, by unfold At; rfl, _, _, rfl, At.keep (same_upd ht) a7, rfl⟩
        rw [decide_eq_false (show ¬ V.int r = V.int 5 from fun q => by injection q; omega)]
        refine iteF ⟨_, rfl, _, _, rfl, rfl, _, rfl, ?_⟩
        rw [decide_eq_false (show ¬ r < 5 by omega)]
        refine iteF ⟨_, rfl, rfl, _, rfl, ?_⟩
        by_cases c6 : r = 6
        · rw [decide_eq_true (show V.int r = V.int 6 by rw [c6])]
          refine iteT ?_
          refine ⟨_, rfl, _, rfl, by show 3 ≤ sizeLine; decide, fun t ht => ?_⟩
          refine k (.ref t) (.ask en vr) _ ⟨hn, hvr⟩ ⟨Nat.le_trans (by decide : 3 ≤ 25) (gwd_ge m), Nat.zero_le _⟩ ?_ (S3.T.keep (same_upd ht)) (K3.trans (Kept.of (same_upd ht)))
          unfold Stm.dt
          rw [At]
          refine ⟨t, _, rfl, upd_same, ?_⟩
          simp only [AtL]
          exact ⟨_, _, rfl, by unfold At; rfl, _, _, rfl, by unfold At; rfl, _, _, rfl, by unfold At; rfl, rfl⟩
        rw [decide_eq_false (show ¬ V.int r = V.int 6 from fun q => by injection q; omega)]
        refine iteF ⟨_, rfl, rfl, _, rfl, ?_⟩
        by_cases c7 : r = 7
        · rw [decide_eq_true (show V.int r = V.int 7 by rw [c7])]
          refine iteT ?_
          obtain ⟨pv, hp1, hp2⟩ := id S3.pl
          refine ⟨_, rfl, pl, rfl, ⟨_, SqL.of hp1⟩, fun F nF => ?_⟩
          have Fp : F ≠ pl := (ne_of_none hp1 nF).symm
          have Fd := S3.T.ne nF
          have lps := hp2.length
          rw [List.length_map] at lps
          have hpn := S3.pn
          refine lc_list (K := K) (a := pl) (xs := pv) (fun i H' => ∃ (fs : List Prt) (vs : List V), H' F = some (.lst vs) ∧ AtL K H' (fs.map Prt.dt) vs ∧ (∀ p ∈ fs, p ∈ ps ∧ p.params.length ≤ es.length) ∧ fs.length ≤ i ∧ Src K H' d c pe pl es ps ∧ Kept d H4 H' ∧ H' pl = some (.lst pv) ∧ AtL K H' (ps.map Prt.dt) pv)
            ⟨[], [], upd_same, by simp only [List.map_nil, AtL], fun p h => (by cases h), Nat.zero_le _, S3.next (S3.T.keep (same_upd nF)) (Kept.of (same_upd nF)), Kept.of (same_upd nF), same_upd nF _ _ hp1, AtL.keep (same_upd nF) hp2⟩ (fun i H' _ ⟨_, _, _, _, _, _, _, _, h, _⟩ => SqL.of h) ?_ ?_
          · rintro i x H5 hi ⟨fs, vs, hF, haf, hff, hfl, S5, K5, hp5, hq5⟩
            have hi2 : i < pv.length := (List.getElem?_eq_some_iff.mp hi).1
            obtain ⟨dd, ed, hx⟩ := AtL.inv hq5 hi
            rw [List.getElem?_map] at ed
            obtain ⟨pp, epp, rfl⟩ : ∃ pp, ps[i]? = some pp ∧ dd = pp.dt := by
              cases e : ps[i]? with
              | none => rw [e] at ed; cases ed
              | some q => rw [e] at ed; exact ⟨q, rfl, (Option.some.inj ed).symm⟩
            have hpp : pp ∈ ps := List.mem_of_getElem? epp
            obtain ⟨ap, qp, up, rfl, hap, hqp, _⟩ := prt_inv hx
            refine ⟨rfl, ?_⟩
            refine ⟨_, rfl, ap, _, _, _, rfl, rfl, SqT.of hap, atI_nat (j := 1) rfl, qp, _, rfl, .inr (SqT.of hqp), ?_⟩
            refine ⟨_, rfl, pe, _, rfl, .inr (SqT.of S5.he), ?_⟩
            rw [List.length_map, List.length_map]
            refine ⟨_, _, rfl, rfl, _, rfl, ?_⟩
            refine ite2 (fun c9 => ?_) (fun c9 => ?_)
            · have c9 : (pp.params.length : Int) ≤ (es.length : Int) := of_decide_eq_true c9
              refine ⟨_, rfl, vs, hF, ?_, fs ++ [pp], vs ++ [.ref ap], upd_same, ?_, ?_, ?_, S5.put hF Fd Fp, K5.upd nF, ?_, ?_⟩
              · have := haf.length
                rw [List.length_map] at this
                exact sz6' (by omega)
              · rw [List.map_append]
                exact AtL.snoc (At.offL hF (prt_noL pp) hx) (AtL.offL hF (prts_noL fs) haf)
              · intro p hp
                rcases List.mem_append.mp hp with hp | hp
                · exact hff p hp
                · rw [List.mem_singleton.mp hp]
                  exact ⟨hpp, by omega⟩
              · rw [List.length_append]
                show fs.length + 1 ≤ i + 1
                omega
              · rw [upd_ne Fp.symm]
                exact hp5
              · exact AtL.offL hF (prts_noL ps) hq5
            · exact ⟨fs, vs, hF, haf, hff, by omega, S5, K5, hp5, hq5⟩
          · rintro H5 ⟨fs, vs, hF, haf, hff, hfl, S5, K5, hp5, hq5⟩
            have lfs := haf.length
            rw [List.length_map] at lfs
            refine ⟨_, rfl, Nat.zero_le _, fun Z nZ => ?_⟩
            refine ⟨F, Z, vs, fs.map Prt.dt, rfl, rfl, SqL.of (same_upd nZ _ _ hF), AtL.keep (same_upd nZ) haf, prts_lay fun p hp => S3.po p (hff p hp).1, SqL.of upd_same, _, rfl, ?_⟩
            have S5 := S5.next (S5.T.keep (same_upd (o := .lst []) nZ)) (Kept.of (same_upd nZ))
            have K5 : Kept d H _ := (K3.trans K5).trans (Kept.of (same_upd (o := .lst []) nZ))
            have hF := same_upd (o := .lst []) nZ _ _ hF
            have haf := AtL.keep (same_upd (o := .lst []) nZ) haf
            refine ite2 (fun c9 => ?_) (fun c9 => ?_)
            · refine ⟨_, rfl, _, rfl, by show 3 ≤ sizeLine; decide, fun t ht => ?_⟩
              refine k (.ref t) (.ask en vr) _ ⟨hn, hvr⟩ ⟨Nat.le_trans (by decide : 3 ≤ 25) (gwd_ge m), Nat.zero_le _⟩ ?_ (S5.T.keep (same_upd ht)) (K5.trans (Kept.of (same_upd ht)))
              unfold Stm.dt
              rw [At]
              refine ⟨t, _, rfl, upd_same, ?_⟩
              simp only [AtL]
              exact ⟨_, _, rfl, by unfold At; rfl, _, _, rfl, by unfold At; rfl, _, _, rfl, by unfold At; rfl, rfl⟩
            · have hf0 : 0 < fs.length := by
                cases fs with
                | nil => exact absurd rfl c9
                | cons _ _ => exact Nat.zero_lt_succ _
              refine ⟨_, rfl, _, rfl, _, rfl, F, _, rfl, .inl (SqL.of hF), ?_⟩
              rw [lfs]
              refine ⟨d, c, (fs.length : Int), rfl, S5.T, by omega, by omega, fun r6 H6 u0 u1 T6 O6 => ?_⟩
              obtain ⟨j, rfl⟩ := Int.eq_ofNat_of_zero_le u0
              have hj : j < fs.length := by omega
              obtain ⟨vp, evp, hvp⟩ := AtL.get (i := j) (d := fs[j].dt) haf (by rw [List.getElem?_map, List.getElem?_eq_getElem hj]; rfl)
              have w6 := S5.T.rws O6.kept
              have S6 := S5.next T6 O6.kept
              have K6 := K5.trans O6.kept
              refine ⟨F, _, _, _, rfl, rfl, SqL.of (w6.2 _ _ hF), atI_nat evp, ?_⟩
              obtain ⟨hps, hle⟩ := hff fs[j] (List.getElem_mem hj)
              have hpo := S6.po _ hps
              generalize fs[j] = pp at hvp hps hle hpo
              obtain ⟨ap, qp, up, rfl, hap, hqp, _⟩ := prt_inv (At.rws w6 hvp)
              refine ⟨Nat.zero_le _, fun Cc nC => ?_⟩
              have hap := same_upd (o := .lst []) nC _ _ hap
              have hqp := same_upd (o := .lst []) nC _ _ hqp
              obtain ⟨pv6, hp61, _⟩ := id S6.pl
              have Cp : Cc ≠ pl := (ne_of_none hp61 nC).symm
              have Cd := S6.T.ne nC
              have nC0 : H Cc = none := by
                cases e : H Cc with
                | none => rfl
                | some o => rw [K6 Cc o Cd.1 e] at nC; cases nC
              refine ⟨_, rfl, ap, _, _, _, rfl, rfl, SqT.of hap, atI_nat (j := 1) rfl, qp, _, rfl, .inr (SqT.of hqp), ?_⟩
              rw [List.length_map]
              have b4 := hpo.2.2.2.1
              refine ⟨_, rfl, by omega, by omega, ?_⟩
              refine for_range (n := pp.params.length) (fun i σ H' => ∃ (cs : List Str) (y13 y14 : Option V), σ = [some (.ref d), some (.ref pe), some (.ref pl), some (.int m), some (.int r), some (.str vr), some (.str en), none, none, none, some (.ref ap), some (.ref F), some (.ref Cc), y13, y14, none, none] ∧
                H' Cc = some (.lst (cs.map V.str)) ∧ cs.length = i ∧ cs.Nodup ∧ (∀ e ∈ cs, e ∈ es) ∧ Src K H' d c pe pl es ps ∧ Kept d H H' ∧ H' ap = some (.tup [.str pp.name, .ref qp, up]))
                ⟨[], none, none, rfl, upd_same, rfl, List.nodup_nil, fun e h => (by cases h), S6.next (S6.T.keep (same_upd nC)) (Kept.of (same_upd nC)), K6.trans (Kept.of (same_upd nC)), hap⟩ ?_ ?_
              · rintro i σ H7 hi ⟨cs, y13, y14, rfl, hC, hcl, hcn, hce, S7, K7, hap7⟩
                refine ⟨_, rfl, pe, rfl, ⟨_, SqT.of S7.he⟩, fun R nR => ?_⟩
                have Rc : R ≠ Cc := (ne_of_none hC nR).symm
                obtain ⟨pv7, hp71, _⟩ := id S7.pl
                have Rp : R ≠ pl := (ne_of_none hp71 nR).symm
                have Rd := S7.T.ne nR
                have Ra : ap ≠ R := ne_of_none hap7 nR
                have nR0 : H R = none := by
                  cases e : H R with
                  | none => rfl
                  | some o => rw [K7 R o Rd.1 e] at nR; cases nR
                refine lc_tup (K := K) (a := pe) (xs := es.map V.str) (fun j H' => ∃ rs : List Str, H' R = some (.lst (rs.map V.str)) ∧ rs.length ≤ j ∧ (∀ e ∈ rs, e ∈ es ∧ e ∉ cs) ∧ (∀ e ∈ es.take j, e ∈ cs ∨ e ∈ rs) ∧ H' Cc = some (.lst (cs.map V.str)) ∧ Src K H' d c pe pl es ps ∧ Kept d H H' ∧ H' ap = some (.tup [.str pp.name, .ref qp, up]))
                  ⟨[], upd_same, Nat.zero_le _, fun e h => (by cases h), fun e h => (by simp at h), same_upd nR _ _ hC, S7.next (S7.T.keep (same_upd nR)) (Kept.of (same_upd nR)), K7.trans (Kept.of (same_upd nR)), same_upd nR _ _ hap7⟩ (fun j H' _ ⟨_, _, _, _, _, _, S8, _, _⟩ => SqT.of S8.he) ?_ ?_
                · rintro j x H8 hj ⟨rs, hR, hrl, hre, hrt, hC8, S8, K8, hap8⟩
                  rw [List.getElem?_map] at hj
                  obtain ⟨nm, enm, rfl⟩ : ∃ q, es[j]? = some q ∧ x = .str q := by
                    cases e : es[j]? with
                    | none => rw [e] at hj; cases hj
                    | some q => rw [e] at hj; exact ⟨q, rfl, (Option.some.inj hj).symm⟩
                  have hnm : nm ∈ es := List.mem_of_getElem? enm
                  have etk : es.take (j + 1) = es.take j ++ [nm] := by
                    rw [List.take_add_one, enm]
                    rfl
                  have hjl : j < es.length := (List.getElem?_eq_some_iff.mp enm).1
                  refine ⟨rfl, ?_⟩
                  refine ⟨_, rfl, _, rfl, Cc, _, rfl, .inl (SqL.of hC8), rfl, by rw [List.all_eq_true]; intro y hy; obtain ⟨q, _, rfl⟩ := List.mem_map.mp hy; rfl, ?_⟩
                  rw [inV_str]
                  refine ⟨_, rfl, ?_⟩
                  by_cases cin : nm ∈ cs
                  · rw [decide_eq_true cin]
                    refine iteF ⟨rs, hR, by omega, hre, fun e he => ?_, hC8, S8, K8, hap8⟩
                    rw [etk] at he
                    rcases List.mem_append.mp he with he | he
                    · exact hrt e he
                    · rw [List.mem_singleton.mp he]
                      exact .inl cin
                  · rw [decide_eq_false cin]
                    refine iteT ⟨_, rfl, _, hR, ?_, rs ++ [nm], ?_, ?_, ?_, ?_, ?_, S8.put hR Rd Rp, K8.upd nR0, ?_⟩
                    · rw [List.length_map]
                      exact sz6' (by omega)
                    · rw [upd_same, List.map_append]
                      rfl
                    · rw [List.length_append]
                      show rs.length + 1 ≤ j + 1
                      omega
                    · intro e he
                      rcases List.mem_append.mp he with he | he
                      · exact hre e he
                      · rw [List.mem_singleton.mp he]
                        exact ⟨hnm, cin⟩
                    · intro e he
                      rw [etk] at he
                      rcases List.mem_append.mp he with he | he
                      · rcases hrt e he with q | q
                        · exact .inl q
                        · exact .inr (List.mem_append_left _ q)
                      · exact .inr (List.mem_append_right _ he)
                    · rw [upd_ne Rc.symm]
                      exact hC8
                    · rw [upd_ne Ra]
                      exact hap8
                · rintro H8 ⟨rs, hR, hrl, hre, hrt, hC8, S8, K8, hap8⟩
                  rw [List.length_map] at hrl
                  rw [List.length_map, List.take_length] at hrt
                  have hr0 : 0 < rs.length := by
                    cases rs with
                    | cons _ _ => exact Nat.zero_lt_succ _
                    | nil =>
                      have := nodup_len S8.en fun e he => (hrt e he).resolve_right (by simp)
                      omega
                  refine ⟨_, rfl, .inl ⟨rfl, _, SqL.of hC8⟩, ?_⟩
                  refine ⟨_, rfl, _, rfl, _, rfl, R, _, rfl, .inl (SqL.of hR), ?_⟩
                  rw [List.length_map]
                  refine ⟨d, c, (rs.length : Int), rfl, S8.T, by omega, by omega, fun r9 H9 v0 v1 T9 O9 => ?_⟩
                  have w9 := S8.T.rws O9.kept
                  have S9 := S8.next T9 O9.kept
                  obtain ⟨y, hy, ey⟩ := str_at v0 v1
                  have hC9 := w9.2 _ _ hC8
                  refine ⟨R, _, _, _, rfl, rfl, SqL.of (w9.2 _ _ hR), ey, Cc, _, _, rfl, rfl, hC9, ?_, cs ++ [y], _, _, rfl, ?_, ?_, ?_, ?_, S9.put hC9 Cd Cp, (K8.trans O9.kept).upd nC0, ?_⟩
                  · rw [List.length_map]
                    exact sz6' (by omega)
                  · rw [upd_same, List.map_append]
                    rfl
                  · rw [List.length_append, hcl]
                    rfl
                  · rw [List.nodup_append]
                    refine ⟨hcn, by simp, fun a ha b hb => ?_⟩
                    rw [List.mem_singleton.mp hb]
                    intro q
                    exact (hre y hy).2 (q ▸ ha)
                  · intro e he
                    rcases List.mem_append.mp he with he | he
                    · exact hce e he
                    · rw [List.mem_singleton.mp he]
                      exact (hre y hy).1
                  · rw [upd_ne (ne_of (w9.1 _ _ hap8) hC9 (by intro z; cases z))]
                    exact w9.1 _ _ hap8
              · rintro σ H7 ⟨cs, y13, y14, rfl, hC, hcl, hcn, hce, S7, K7, hap7⟩
                refine ⟨_, rfl, ap, _, _, _, rfl, rfl, SqT.of hap7, atI_nat (j := 0) rfl, _, rfl, Cc, _, rfl, .inl ⟨SqL.of hC, fun tc htc => ?_⟩⟩
                refine ⟨by show 3 ≤ sizeLine; decide, fun t ht => ?_⟩
                have s1 := same_upd (o := .tup (cs.map V.str)) htc
                refine k (.ref t) (.call pp.name cs) _ ⟨hpo.1, fun q => ?_, fun e he => S7.eo e (hce e he)⟩ ?_ ?_ ((S7.T.keep s1).keep (same_upd ht)) ((K7.trans (Kept.of s1)).trans (Kept.of (same_upd ht)))
                · rw [q] at hcl
                  exact hpo.2.1 (List.eq_nil_of_length_eq_zero hcl.symm)
                · refine ⟨?_, Nat.zero_le _⟩
                  have := gwd_ge m
                  show 4 + 2 * cs.length ≤ gwd m
                  omega
                · have an : At K (upd (upd H7 tc (.tup (cs.map V.str))) t (.tup [.str "call", .str pp.name, .ref tc])) (namesDt cs) (.ref tc) := At.keep (same_upd ht) (names_at upd_same)
                  unfold Stm.dt
                  rw [At]
                  refine ⟨t, _, rfl, upd_same, ?_⟩
                  simp only [AtL]
                  exact ⟨_, _, rfl, by unfold At; rfl, _, _, rfl, by unfold At; rfl, _, _, rfl, an, rfl⟩
        rw [decide_eq_false (show ¬ V.int r = V.int 7 from fun q => by injection q; omega)]
        have hm0 : 1 ≤ m := by
          cases m with
          | zero => have := rm rfl; omega
          | succ m => omega
        have em : ((m : Int) - 1) = ((m - 1 : Nat) : Int) := by omega
        have eg : gwd m = 20 + 6 * gwd (m - 1) := by
          cases m with
          | zero => omega
          | succ m => rfl
        refine iteF ⟨_, rfl, _, _, rfl, rfl, _, rfl, ?_⟩
        refine ite2 (fun c8 => ?_) (fun c8 => ?_)
        · have c8 : r < 11 := of_decide_eq_true c8
          refine ⟨_, rfl, _, rfl, _, rfl, _, rfl, _, _, rfl, rfl, d, c, pe, pl, es, ps, m - 1, 2, congrArg (fun i => [V.ref d, .ref pe, .ref pl, .int i, .int 2]) em, by omega, by omega, by omega, S3, fun v5 x5 H5 o5 w5 a5 T5 K5 => ?_⟩
          have S5 := S3.next T5 K5
          refine ⟨_, rfl, _, rfl, d, c, 1, rfl, by decide, by decide, T5, fun v6 x6 H6 o6 d6 a6 T6 K6 => ?_⟩
          have S6 := S5.next T6 K6
          refine ⟨_, rfl, _, rfl, _, rfl, _, rfl, _, rfl, _, _, rfl, rfl, d, c, pe, pl, es, ps, m - 1, 2, congrArg (fun i => [V.ref d, .ref pe, .ref pl, .int i, .int 2]) em, by omega, by omega, by omega, S6, fun v7 x7 H7 o7 w7 a7 T7 K7 => ?_⟩
          refine ⟨by show 5 ≤ sizeLine; decide, fun t ht => ?_⟩
          refine k (.ref t) (.ite en x6 x5 x7) _ ⟨hn, ⟨o6, by omega⟩, o5, o7⟩ ?_ ?_ (T7.keep (same_upd ht)) ((((K3.trans K5).trans K6).trans K7).trans (Kept.of (same_upd ht)))
          · have e1 := Nat.le_trans (wd_le x6) (fwd_mono d6)
            have e3 : fwd 1 = 9 := rfl
            have e4 := gwd_ge (m - 1)
            obtain ⟨u1, u2⟩ := w5
            obtain ⟨u3, u4⟩ := w7
            refine ⟨?_, by show max (blkNst x5) (blkNst x7) + 1 ≤ m; omega⟩
            show 4 + x6.wd + (2 + blkWd x5) + (2 + blkWd x7) ≤ gwd m
            omega
          · have a5' := At.keep (same_upd ht (o := .tup [.str "if", .str en, v6, v5, v7])) (At.rws (T6.rws K7) (At.rws (T5.rws K6) a5))
            have a6' := At.keep (same_upd ht (o := .tup [.str "if", .str en, v6, v5, v7])) (At.rws (T6.rws K7) a6)
            have a7' := At.keep (same_upd ht (o := .tup [.str "if", .str en, v6, v5, v7])) a7
            unfold blkDt at a5' a7'
            unfold Stm.dt
            rw [At]
            refine ⟨t, _, rfl, upd_same, ?_⟩
            simp only [AtL]
            exact ⟨_, _, rfl, by unfold At; rfl, _, _, rfl, by unfold At; rfl, _, _, rfl, a6', _, _, rfl, a5', _, _, rfl, a7', rfl⟩
        · refine ⟨_, rfl, _, rfl, d, c, 1, rfl, by decide, by decide, S3.T, fun v6 x6 H6 o6 d6 a6 T6 K6 => ?_⟩
          have S6 := S3.next T6 K6
          refine ⟨_, rfl, _, rfl, _, rfl, _, rfl, _, _, rfl, rfl, d, c, pe, pl, es, ps, m - 1, 3, congrArg (fun i => [V.ref d, .ref pe, .ref pl, .int i, .int 3]) em, by omega, by omega, by omega, S6, fun v7 x7 H7 o7 w7 a7 T7 K7 => ?_⟩
          refine ⟨by show 4 ≤ sizeLine; decide, fun t ht => ?_⟩
          refine k (.ref t) (.whl en x6 x7) _ ⟨hn, ⟨o6, by omega⟩, o7⟩ ?_ ?_ (T7.keep (same_upd ht)) (((K3.trans K6).trans K7).trans (Kept.of (same_upd ht)))
          · have e1 := Nat.le_trans (wd_le x6) (fwd_mono d6)
            have e3 : fwd 1 = 9 := rfl
            have e4 := gwd_ge (m - 1)
            obtain ⟨u3, u4⟩ := w7
            refine ⟨?_, by show blkNst x7 + 1 ≤ m; omega⟩
            show 3 + x6.wd + (2 + blkWd x7) ≤ gwd m
            omega
          · have a6' := At.keep (same_upd ht (o := .tup [.str "while", .str en, v6, v7])) (At.rws (T6.rws K7) a6)
            have a7' := At.keep (same_upd ht (o := .tup [.str "while", .str en, v6, v7])) a7
            unfold blkDt at a7'
            unfold Stm.dt
            rw [At]
            refine ⟨t, _, rfl, upd_same, ?_⟩
            simp only [AtL]
            exact ⟨_, _, rfl, by unfold At; rfl, _, _, rfl, by unfold At; rfl, _, _, rfl, a6', _, _, rfl, a7', rfl⟩
end
/-! ### trees are drawn: parts, the whole -/
def prtWd (p : Prt) : Nat := 4 + 2 * p.params.length + (2 + blkWd p.body)
def prtsWd : List Prt → Nat
  | [] => 0
  | p :: r => prtWd p + prtsWd r
theorem prtsWd_snoc : ∀ (b : List Prt) (s : Prt), prtsWd (b ++ [s]) = prtsWd b + prtWd s
  | [], s => by
    show prtWd s + 0 = 0 + prtWd s
    omega
  | x :: r, s => by
    show prtWd x + prtsWd (r ++ [s]) = prtWd x + prtsWd r + prtWd s
    rw [prtsWd_snoc r s]
    omega
def Tree.wd (t : Tree) : Nat := 2 + 2 * t.ends.length + prtsWd t.parts + (2 + blkWd t.body)
structure TOk (t : Tree) : Prop where
  e0 : t.ends ≠ []
  en : ∀ e ∈ t.ends, Nm e
  po : ∀ p ∈ t.parts, POk p
  bo : blkOk t.body
  pl : t.parts.length ≤ 2
section
variable {P : Program} {w : World} {K : PySem.W.Frag} {mg : Str → Option Value} {base : Heap}
theorem stm_all (T : Txt K mg) {f__law_take : Addr} {d__law_take : FuncData} (c__law_take : Cal P w K mg base 1 "_law_take" ["tape", "many"] spTake f__law_take d__law_take) {f__law_two : Addr} {d__law_two : FuncData} (c__law_two : Cal P w K mg base 2 "_law_two" ["tape", "ends"] spTwo f__law_two d__law_two) {f__law_value : Addr} {d__law_value : FuncData} (c__law_value : Cal P w K mg base 6 "_law_value" ["tape", "depth"] (spVal K 3) f__law_value d__law_value) {f1 f2 : Addr} {d1 d2 : FuncData}
    (F1 : Fun K "_law_block" "_law_block" s__law_block f1 d1) (b1 : Binds K d1 ["tape", "ends", "parts", "depth", "most"] []) (m1 : mg "_law_block" = some (.ref f1))
    (F2 : Fun K "_law_statement" "_law_statement" s__law_statement f2 d2) (b2 : Binds K d2 ["tape", "ends", "parts", "depth"] []) (m2 : mg "_law_statement" = some (.ref f2)) :
    ∀ n : Nat, FnOk P w K mg base CX0 (8+2*n) f2 d2 ["tape", "ends", "parts", "depth"] (spStm K n)
  | 0 => stm_none
  | n + 1 => by
    have ih := stm_all T c__law_take c__law_two c__law_value F1 b1 m1 F2 b2 m2 n
    exact ok_law_statement F2 T n c__law_take c__law_two c__law_value ⟨ok_law_block F1 T n c__law_take ⟨ih, b2, F2.kp, m2⟩, b1, F1.kp, m1⟩
theorem dval_all (T : Txt K mg) {f__law_take : Addr} {d__law_take : FuncData} (c__law_take : Cal P w K mg base 1 "_law_take" ["tape", "many"] spTake f__law_take d__law_take) {f__law_number : Addr} {d__law_number : FuncData} (c__law_number : Cal P w K mg base 2 "_law_number" ["tape"] spNumber f__law_number d__law_number) {f1 : Addr} {d1 : FuncData}
    (F1 : Fun K "_law_value" "_law_value" s__law_value f1 d1) (b1 : Binds K d1 ["tape", "depth"] []) (m1 : mg "_law_value" = some (.ref f1)) :
    ∀ n : Nat, FnOk P w K mg base CX0 (3+n) f1 d1 ["tape", "depth"] (spVal K n)
  | 0 => val_none
  | n + 1 => by
    have ih := dval_all T c__law_take c__law_number F1 b1 m1 n
    exact ok_law_value F1 T n c__law_take c__law_number ⟨ih, b1, F1.kp, m1⟩
theorem sl_take {K : PySem.W.Frag} {H : Hp} {a : Addr} {es : List Str} {j : Nat} {Q : VK} (h : H a = some (.tup (es.map V.str))) (hj : j ≤ es.length) (q : ∀ p H', H' p = some (.tup ((es.take j).map V.str)) → Same H H' → Q (.ref p) H') : rSlA K (.ref a) none (some (j : Int)) H Q := by
  have e0 : HT.sIx (es.map V.str).length 0 none = 0 := rfl
  have e1 : HT.sIx (es.map V.str).length (es.map V.str).length (some (j : Int)) = j := by
    rw [HT.sIx_nat, List.length_map]
    omega
  refine ⟨a, _, rfl, SqT.of h, fun e => q a H ?_ (fun _ _ z => z), fun _ p hp => q p _ ?_ (same_upd hp)⟩
  · rw [e1, List.length_map] at e
    rw [e.2, List.take_length]
    exact h
  · rw [upd_same]
    show some (HO.tup (((es.map V.str).drop (HT.sIx (es.map V.str).length 0 none)).take (HT.sIx (es.map V.str).length (es.map V.str).length (some (j : Int)) - HT.sIx (es.map V.str).length 0 none))) = _
    rw [e0, e1, List.drop_zero, Nat.sub_zero, List.map_take]
def spTreeD (K : PySem.W.Frag) (n : Nat) : Sp := fun vs H Q _ => ∃ (d c : Addr) (m k : Nat), vs = [.ref d, .int m, .int k] ∧ m < n ∧ m ≤ 1000 ∧ k ≤ 5 ∧ Tape H d c ∧
  ∀ (v : V) (x : Tree) H', TOk x → (x.wd ≤ 716 + k * gwd m ∧ blkNst x.body ≤ m) → At K H' x.dt v → Tape H' d c → Kept d H H' → Q v H'
theorem ok_law_tree {f : Addr} {fd : FuncData} (F : Fun K "_law_tree" "_law_tree" s__law_tree f fd) (T : Txt K mg) {f__law_take : Addr} {d__law_take : FuncData} (c__law_take : Cal P w K mg base 1 "_law_take" ["tape", "many"] spTake f__law_take d__law_take) (n : Nat) (hn2 : 2 ≤ n) {f__law_block : Addr} {d__law_block : FuncData} (c__law_block : Cal P w K mg base (8+2*n+1) "_law_block" ["tape", "ends", "parts", "depth", "most"] (spBlk K n) f__law_block d__law_block) : FnOk P w K mg base CX0 (8+2*n+2) f fd ["tape", "depth", "most"] (spTreeD K n) := by
  refine F.ok sc__law_tree (fun vs H Q E h => ?_) (fun cdv A outer s H vs Q E hr h => ?_)
  · obtain ⟨d, c, m, k, rfl, _⟩ := h
    rfl
  · obtain ⟨d, c, m, most, rfl, hm, hm1, hk, hT, k⟩ := h
    refine ⟨_, (pss_cons (ps_set (i := 3) sc__law_tree.nd rfl (.inl rfl) (pe_slice sl_tupA (pe_tup (pa_cons pe_str (pa_cons pe_str (pa_cons pe_str (pa_cons pe_str pa_nil))))) po_none (po_some (pe_op op_add pe_int (pe_call c__law_take.G (hr.mono (by omega)) (by rfl) c__law_take.m c__law_take.k c__law_take.b .nil pass0 (pa_cons (pv 0) (pa_cons pe_int pa_nil)))))))
      (pss_cons (ps_set (i := 4) sc__law_tree.nd rfl (.inl rfl) (pe_lst pa_nil))
      (pss_cons (ps_for PassesOwn.never rfl (pi_range1 (by rfl) T.range (pa_cons (pe_call c__law_take.G (hr.mono (by omega)) (by rfl) c__law_take.m c__law_take.k c__law_take.b .nil pass0 (pa_cons (pv 0) (pa_cons pe_int pa_nil))) pa_nil)) (pg_name (i := 5) sc__law_tree.nd rfl (.inl rfl)) (pss_cons (ps_set (i := 6) sc__law_tree.nd rfl (.inl rfl) (pe_slice sl_tupA (pe_tup (pa_cons pe_str (pa_cons pe_str (pa_cons pe_str pa_nil)))) po_none (po_some (pe_op op_add pe_int (pe_call c__law_take.G (hr.mono (by omega)) (by rfl) c__law_take.m c__law_take.k c__law_take.b .nil pass0 (pa_cons (pv 0) (pa_cons pe_int pa_nil)))))))
      (pss_cons (ps_set (i := 7) sc__law_tree.nd rfl (.inl rfl) (pe_op op_add_str pe_str (pe_callTy call_str_int (by rfl) T.str (by decide +kernel) (pa_cons (pv 5) pa_nil))))
      (pss_one (ps_expr (pe_bm PySem.F.plainAttrs_list PySem.F.slot_list_append PySem.F.type_list_append mt_append (pv 4) (pa_cons (pe_tup (pa_cons (pv 7) (pa_cons (pv 6) (pa_cons (pe_call c__law_block.G (hr.mono (by omega)) (by rfl) c__law_block.m c__law_block.k c__law_block.b .nil pass0 (pa_cons (pv 0) (pa_cons (pv 6) (pa_cons (pv 4) (pa_cons pe_int (pa_cons pe_int pa_nil)))))) pa_nil)))) pa_nil)))))))
      (pss_one (ps_ret (pe_tup (pa_cons (pv 3) (pa_cons (pe_callTy call_tuple_of (by rfl) T.tuple (by decide +kernel) (pa_cons (pv 4) pa_nil)) (pa_cons (pe_call c__law_block.G (hr.mono (by omega)) (by rfl) c__law_block.m c__law_block.k c__law_block.b .nil pass0 (pa_cons (pv 0) (pa_cons (pv 3) (pa_cons (pv 4) (pa_cons (pv 1) (pa_cons (pv 2) pa_nil)))))) pa_nil))))))))), ?_⟩
    refine ⟨by show 4 ≤ sizeLine; decide, fun E1 nE => ?_⟩
    refine ⟨_, rfl, d, c, 3, rfl, hT.keep (same_upd nE), by decide, by decide, fun r1 H1 a0 a1 T1 O1 => ?_⟩
    obtain ⟨n1, rfl⟩ := Int.eq_ofNat_of_zero_le a0
    have hE1 : H1 E1 = some (.tup ([("a" : Str), "b", "c", "d"].map V.str)) := by
      rw [O1 E1 (hT.ne nE).1]
      exact upd_same
    refine ⟨_, _, rfl, rfl, _, rfl, ?_⟩
    have ej : (2 : Int) + (n1 : Int) = ((2 + n1 : Nat) : Int) := by omega
    show rSlA K (.ref E1) none (some ((2 : Int) + (n1 : Int))) H1 _
    rw [ej]
    refine sl_take hE1 (by show 2 + n1 ≤ 4; omega) fun pe H2 hpe s2 => ?_
    have T2 := T1.keep s2
    have K2 : Kept d H H2 := ((Kept.of (same_upd nE)).trans O1.kept).trans (Kept.of s2)
    have eso : ∀ e ∈ ([("a" : Str), "b", "c", "d"].take (2 + n1)), Nm e := fun e he => by
      have he := List.mem_of_mem_take he
      simp only [List.mem_cons, List.not_mem_nil, or_false] at he
      unfold Nm
      rcases he with rfl | rfl | rfl | rfl <;> simp
    have esn : ([("a" : Str), "b", "c", "d"].take (2 + n1)).Nodup := (List.take_sublist _ _).nodup (by decide +kernel)
    have esl : ([("a" : Str), "b", "c", "d"].take (2 + n1)).length = 2 + n1 := by
      rw [List.length_take]
      show min (2 + n1) 4 = _
      omega
    generalize ([("a" : Str), "b", "c", "d"].take (2 + n1)) = es at hpe eso esn esl
    refine ⟨Nat.zero_le _, fun pl nl => ?_⟩
    have nl0 : H pl = none := by
      cases e : H pl with
      | none => rfl
      | some o => rw [K2 pl o (T2.ne nl).1 e] at nl; cases nl
    refine ⟨_, rfl, d, c, 3, rfl, T2.keep (same_upd nl), by decide, by decide, fun r3 H3 b0 b1 T3 O3 => ?_⟩
    obtain ⟨n3, rfl⟩ := Int.eq_ofNat_of_zero_le b0
    have w3 := (T2.keep (same_upd (o := .lst []) nl)).rws O3.kept
    refine ⟨_, rfl, by omega, by omega, ?_⟩
    have hpe3 := w3.1 _ _ (same_upd (o := .lst []) nl _ _ hpe)
    have hpl3 := w3.2 _ _ (upd_same (H := H2) (a := pl) (o := .lst []))
    refine for_range (n := n3) (fun i σ H' => ∃ (ps : List Prt) (y5 y6 y7 : Option V) (vs : List V), σ = [some (.ref d), some (.int m), some (.int most), some (.ref pe), some (.ref pl), y5, y6, y7] ∧ H' pl = some (.lst vs) ∧ AtL K H' (ps.map Prt.dt) vs ∧ ps.length = i ∧ (∀ p ∈ ps, POk p) ∧ prtsWd ps ≤ i * 352 ∧ H' pe = some (.tup (es.map V.str)) ∧ Tape H' d c ∧ (pl ≠ d ∧ pl ≠ c) ∧ Kept d H H')
      ⟨[], none, none, none, [], rfl, hpl3, by simp only [List.map_nil, AtL], rfl, fun p h => (by cases h), Nat.zero_le _, hpe3, T3, T2.ne nl, (K2.trans (Kept.of (same_upd nl))).trans O3.kept⟩ ?_ ?_
    · rintro i σ H4 hi ⟨ps, y5, y6, y7, vs, rfl, hpl, hat, hl, ho, hw, hpe4, T4, npl, K4⟩
      refine ⟨by show 3 ≤ sizeLine; decide, fun E2 nE2 => ?_⟩
      refine ⟨_, rfl, d, c, 3, rfl, T4.keep (same_upd nE2), by decide, by decide, fun r5 H5 c0 c1 T5 O5 => ?_⟩
      obtain ⟨n5, rfl⟩ := Int.eq_ofNat_of_zero_le c0
      have hE2 : H5 E2 = some (.tup ([("x" : Str), "y", "z"].map V.str)) := by
        rw [O5 E2 (T4.ne nE2).1]
        exact upd_same
      refine ⟨_, _, rfl, rfl, _, rfl, ?_⟩
      have ej : (1 : Int) + (n5 : Int) = ((1 + n5 : Nat) : Int) := by omega
      show rSlA K (.ref E2) none (some ((1 : Int) + (n5 : Int))) H5 _
      rw [ej]
      refine sl_take hE2 (by show 1 + n5 ≤ 3; omega) fun pq H6 hpq s6 => ?_
      have K46 : Kept d H4 H6 := ((Kept.of (same_upd nE2)).trans O5.kept).trans (Kept.of s6)
      have w46 := T4.rws K46
      have T6 := T5.keep s6
      have pso : ∀ e ∈ ([("x" : Str), "y", "z"].take (1 + n5)), Nm e := fun e he => by
        have he := List.mem_of_mem_take he
        simp only [List.mem_cons, List.not_mem_nil, or_false] at he
        unfold Nm
        rcases he with rfl | rfl | rfl <;> simp
      have psn : ([("x" : Str), "y", "z"].take (1 + n5)).Nodup := (List.take_sublist _ _).nodup (by decide +kernel)
      have psl : ([("x" : Str), "y", "z"].take (1 + n5)).length = 1 + n5 := by
        rw [List.length_take]
        show min (1 + n5) 3 = _
        omega
      generalize ([("x" : Str), "y", "z"].take (1 + n5)) = pars at hpq pso psn psl
      have hpl6 := w46.2 _ _ hpl
      have hat6 := AtL.rws w46 hat
      -- name = 'p' + str(k)
      refine ⟨_, rfl, _, rfl, ?_, "p", _, rfl, rfl, ?_, ?_⟩
      · have hi2 : i < 2 := by omega
        rcases (by omega : i = 0 ∨ i = 1) with q | q <;> subst q <;> decide
      · rcases (by omega : i = 0 ∨ i = 1) with q | q <;> subst q <;> decide +kernel
      obtain ⟨nm, enm, hnm⟩ : ∃ nm : Str, ("p" : Str) ++ Str.ofString (toString ((0 : Int) + (i : Int))) = nm ∧ Nm nm := by
        refine ⟨_, rfl, ?_⟩
        rcases (by omega : i = 0 ∨ i = 1) with q | q
        · subst q
          have : ("p" : Str) ++ Str.ofString (toString ((0 : Int) + ((0 : Nat) : Int))) = "p0" := by decide +kernel
          rw [this]
          unfold Nm
          simp
        · subst q
          have : ("p" : Str) ++ Str.ofString (toString ((0 : Int) + ((1 : Nat) : Int))) = "p1" := by decide +kernel
          rw [this]
          unfold Nm
          simp
      rw [enm]
      refine ⟨_, rfl, .inl ⟨rfl, _, SqL.of hpl6⟩, ?_⟩
      refine ⟨_, rfl, _, rfl, ?_⟩
      refine ⟨_, rfl, _, rfl, _, rfl, d, c, pq, pl, pars, ps, 1, 2, rfl, by omega, by omega, by omega, ⟨T6, hpq, by omega, by omega, psn, pso, ⟨vs, hpl6, hat6⟩, ho, by omega⟩, fun v7 x7 H7 o7 w7 a7 T7 K7 => ?_⟩
      refine ⟨by show 3 ≤ sizeLine; decide, fun t ht => ?_⟩
      have wr7 := T6.rws K7
      have s8 := same_upd (o := .tup [.str nm, .ref pq, v7]) ht
      have hpl8 := s8 _ _ (wr7.2 _ _ hpl6)
      have hx : At K (upd H7 t (.tup [.str nm, .ref pq, v7])) (Prt.dt ⟨nm, pars, x7⟩) (.ref t) := by
        have an := At.keep s8 (At.rws wr7 (names_at hpq (K := K)))
        have ab := At.keep s8 a7
        unfold Prt.dt
        rw [At]
        refine ⟨t, _, rfl, upd_same, ?_⟩
        simp only [AtL]
        exact ⟨_, _, rfl, by unfold At; rfl, _, _, rfl, an, _, _, rfl, ab, rfl⟩
      have K8 : Kept d H _ := ((K4.trans K46).trans K7).trans (Kept.of s8)
      refine ⟨pl, _, _, rfl, rfl, hpl8, ?_, ps ++ [⟨nm, pars, x7⟩], _, _, _, _, rfl, upd_same, ?_, ?_, ?_, ?_, ?_, (T7.keep s8).put npl, npl, K8.upd nl0⟩
      · have := hat.length
        rw [List.length_map] at this
        exact sz6' (by omega)
      · rw [List.map_append]
        exact AtL.snoc (At.offL hpl8 (prt_noL _) hx) (AtL.offL hpl8 (prts_noL ps) (AtL.keep s8 (AtL.rws wr7 hat6)))
      · rw [List.length_append, hl]
        rfl
      · intro p hp
        rcases List.mem_append.mp hp with hp | hp
        · exact ho p hp
        · rw [List.mem_singleton.mp hp]
          refine ⟨hnm, fun q => ?_, pso, by show pars.length ≤ 3; omega, o7, w7.2⟩
          have q : pars = [] := q
          rw [q] at psl
          have : 0 = 1 + n5 := psl
          omega
      · rw [prtsWd_snoc, Nat.succ_mul]
        have e1 : gwd 1 = 170 := rfl
        have w7 := w7.1
        show prtsWd ps + (4 + 2 * pars.length + (2 + blkWd x7)) ≤ i * 352 + 352
        omega
      · rw [upd_ne (ne_of (s8 _ _ (wr7.1 _ _ (w46.1 _ _ hpe4))) hpl8 (by intro z; cases z))]
        exact s8 _ _ (wr7.1 _ _ (w46.1 _ _ hpe4))
    · rintro σ H4 ⟨ps, y5, y6, y7, vs, rfl, hpl, hat, hl, ho, hw, hpe4, T4, npl, K4⟩
      refine ⟨_, rfl, _, rfl, pl, _, rfl, .inl ⟨SqL.of hpl, fun tp htp => ?_⟩⟩
      have s5 := same_upd (o := .tup vs) htp
      refine ⟨_, rfl, _, rfl, _, rfl, _, rfl, _, rfl, d, c, pe, pl, es, ps, m, most, rfl, by omega, by omega, hk, ⟨T4.keep s5, s5 _ _ hpe4, by omega, by omega, esn, eso, ⟨vs, s5 _ _ hpl, AtL.keep s5 hat⟩, ho, by omega⟩, fun v6 x6 H6 o6 w6 a6 T6 K6 => ?_⟩
      have wr := (T4.keep s5).rws K6
      refine ⟨by show 3 ≤ sizeLine; decide, fun t ht => ?_⟩
      have s7 := same_upd (o := .tup [.ref pe, .ref tp, v6]) ht
      refine k (.ref t) ⟨es, ps, x6⟩ _ ⟨fun q => ?_, eso, ho, o6, by show ps.length ≤ 2; omega⟩ ?_ ?_ (T6.keep s7) (((K4.trans (Kept.of s5)).trans K6).trans (Kept.of s7))
      · have q : es = [] := q
        rw [q] at esl
        have : 0 = 2 + n1 := esl
        omega
      · obtain ⟨w6, w62⟩ := w6
        refine ⟨?_, w62⟩
        show 2 + 2 * es.length + prtsWd ps + (2 + blkWd x6) ≤ 716 + most * gwd m
        omega
      · have an := At.keep s7 (At.rws wr (At.keep s5 (names_at hpe4 (K := K))))
        have ab := At.keep s7 a6
        have apt := AtL.keep s7 (AtL.rws wr (AtL.keep s5 hat))
        unfold Tree.dt
        rw [At]
        refine ⟨t, _, rfl, upd_same, ?_⟩
        simp only [AtL]
        refine ⟨_, _, rfl, an, _, _, rfl, ?_, _, _, rfl, ab, rfl⟩
        rw [At]
        exact ⟨tp, _, rfl, s7 _ _ (wr.1 _ _ upd_same), apt⟩
end
end OS

namespace OS
open PySem PySem.Spec PyProof.Rows L2
/-! ### the law's own: all statements, doubled names -/
def allS (b : List Stm) : List Stm := (preB 0 b).map (·.1)
theorem pre_lv : ∀ (s : Stm) (l k : Nat), (preS l s).map (·.1) = (preS k s).map (·.1) := fun s => by
  refine Stm.rec (motive_1 := fun s => ∀ (l k : Nat), ((preS l s).map (·.1)) = (preS k s).map (·.1)) (motive_2 := fun b => ∀ (l k : Nat), ((preB l b).map (·.1)) = (preB k b).map (·.1)) ?_ ?_ ?_ ?_ ?_ ?_ ?_ ?_ s
  · intros; simp [preS]
  · intros; simp [preS]
  · intros; simp [preS]
  · intros; simp [preS]
  · intro e v y n h1 h2 l k
    simp only [preS, List.map_cons, List.map_append, h1 l k, h2 l k]
  · intro e v b h1 l k
    simp only [preS, List.map_cons, h1 (l + 1) (k + 1)]
  · intros; simp [preB]
  · intro s r h1 h2 l k
    simp only [preB, List.map_append, h1 l k, h2 l k]
theorem preB_lv (b : List Stm) (l k : Nat) : (preB l b).map (·.1) = (preB k b).map (·.1) := by
  rw [preB_flat, preB_flat, List.map_flatMap, List.map_flatMap]
  congr 1
  funext s
  exact pre_lv s l k
theorem allS_app (a b : List Stm) : allS (a ++ b) = allS a ++ allS b := by
  unfold allS
  rw [preB_flat, preB_flat, preB_flat, List.flatMap_append, List.map_append]
theorem allS_one (s : Stm) : allS [s] = (preS 0 s).map (·.1) := by
  unfold allS
  simp [preB]
theorem allS_ite (e : Str) (v : Val) (y n : List Stm) : allS [.ite e v y n] = [.ite e v y n] ++ allS y ++ allS n := by
  rw [allS_one]
  simp [preS, allS]
theorem allS_whl (e : Str) (v : Val) (b : List Stm) : allS [.whl e v b] = [.whl e v b] ++ allS b := by
  rw [allS_one, preS, List.map_cons, preB_lv b 1 0]
  rfl
theorem preB_len (b : List Stm) : ∀ l, (preB l b).length = nB b := by
  refine Stm.rec_1 (motive_1 := fun s => ∀ l, (preS l s).length = nS s) (motive_2 := fun b => ∀ l, (preB l b).length = nB b) ?_ ?_ ?_ ?_ ?_ ?_ ?_ ?_ b
  · intros; simp [preS, nS]
  · intros; simp [preS, nS]
  · intros; simp [preS, nS]
  · intros; simp [preS, nS]
  · intro e v y n h1 h2 l
    simp only [preS, nS, List.length_cons, List.length_append, h1, h2]
    omega
  · intro e v b h1 l
    simp only [preS, nS, List.length_cons, h1]
    omega
  · intros; simp [preB, nB]
  · intro s r h1 h2 l
    simp only [preB, nB, List.length_append, h1, h2]
theorem allS_len (b : List Stm) : (allS b).length = nB b := by
  unfold allS
  rw [List.length_map, preB_len]
theorem allS_kab (b : List Stm) : kableL ((allS b).map Stm.dt) := kableL_of fun d hd => by
  obtain ⟨s, _, rfl⟩ := List.mem_map.mp hd
  exact stm_kable s
theorem nst_mem : ∀ {b : List Stm} {s : Stm}, s ∈ b → s.nst ≤ blkNst b
  | [], s, h => by cases h
  | x :: r, s, h => by
    show s.nst ≤ max x.nst (blkNst r)
    rcases List.mem_cons.mp h with rfl | h
    · omega
    · have := nst_mem h
      omega
theorem nB_mem : ∀ {b : List Stm} {s : Stm}, s ∈ b → nS s ≤ nB b
  | [], s, h => by cases h
  | x :: r, s, h => by
    simp only [nB]
    rcases List.mem_cons.mp h with rfl | h
    · omega
    · have := nB_mem h
      omega
section
variable {P : Program} {w : World} {K : PySem.W.Frag} {mg : Str → Option Value} {base : Heap}
def spAll (K : PySem.W.Frag) (n : Nat) : Sp := fun vs H Q _ => ∃ (v : V) (b : List Stm), vs = [v] ∧ At K H (blkDt b) v ∧ blkNst b < n ∧ nB b ≤ 4000 ∧ ∀ p us H', Same H H' → H p = none → H' p = some (.lst us) → AtL K H' ((allS b).map Stm.dt) us → Q (.ref p) H'
theorem all_none {f : Addr} {fd : FuncData} {ps : List Str} : FnOk P w K mg base CX0 (1 + 0) f fd ps (spAll K 0) := by
  have no : ∀ vs H Q E, ¬ spAll K 0 vs H Q E := fun vs H Q E h => by
    obtain ⟨_, _, _, _, h, _⟩ := h
    omega
  exact ⟨fun vs H Q E h => absurd h (no vs H Q E), fun A outer s H args us vs Q E _ _ _ _ h => absurd h (no vs H Q E)⟩
theorem ok_law_all {f : Addr} {fd : FuncData} (F : Fun K "_law_all" "_law_all" s__law_all f fd) (T : Txt K mg) (n : Nat) {f__law_all : Addr} {d__law_all : FuncData} (c__law_all : Cal P w K mg base (1+n) "_law_all" ["block"] (spAll K n) f__law_all d__law_all) : FnOk P w K mg base CX0 (1+n+1) f fd ["block"] (spAll K (n+1)) := by
  refine F.ok sc__law_all (fun vs H Q E h => ?_) (fun cdv A outer s H vs Q E hr h => ?_)
  · obtain ⟨v, b, rfl, _⟩ := h
    rfl
  · obtain ⟨v, b, rfl, hat, hn, hnb, k⟩ := h
    unfold blkDt At at hat
    obtain ⟨bp, bs, rfl, hb, hA⟩ := hat
    rw [blkDts_map] at hA
    have lb := hA.length
    rw [List.length_map] at lb
    refine ⟨_, (pss_cons (ps_set (i := 1) sc__law_all.nd rfl (.inl rfl) (pe_lst pa_nil))
      (pss_cons (ps_for PassesOwn.never rfl (pi_tup (pv 0)) (pg_name (i := 2) sc__law_all.nd rfl (.inl rfl)) (pss_cons (ps_expr (pe_bm PySem.F.plainAttrs_list PySem.F.slot_list_append PySem.F.type_list_append mt_append (pv 1) (pa_cons (pv 2) pa_nil)))
      (pss_cons (ps_if (pt_cmpR op_eq (pe_ix ix_tup (pv 2) pe_int (fun _ _ => rfl)) pe_str (nomark _)) (pss_one (ps_set (i := 1) sc__law_all.nd rfl (.inl rfl) (pe_op op_cat (pe_op op_cat (pv 1) (pe_call c__law_all.G (hr.mono (by omega)) (by rfl) c__law_all.m c__law_all.k c__law_all.b .nil pass0 (pa_cons (pe_ix ix_tup (pv 2) pe_int (fun _ _ => rfl)) pa_nil))) (pe_call c__law_all.G (hr.mono (by omega)) (by rfl) c__law_all.m c__law_all.k c__law_all.b .nil pass0 (pa_cons (pe_ix ix_tup (pv 2) pe_int (fun _ _ => rfl)) pa_nil))))) pss_nil)
      (pss_one (ps_if (pt_cmpR op_eq (pe_ix ix_tup (pv 2) pe_int (fun _ _ => rfl)) pe_str (nomark _)) (pss_one (ps_set (i := 1) sc__law_all.nd rfl (.inl rfl) (pe_op op_cat (pv 1) (pe_call c__law_all.G (hr.mono (by omega)) (by rfl) c__law_all.m c__law_all.k c__law_all.b .nil pass0 (pa_cons (pe_ix ix_tup (pv 2) pe_int (fun _ _ => rfl)) pa_nil))))) pss_nil)))))
      (pss_one (ps_ret (pv 1))))), ?_⟩
    refine ⟨Nat.zero_le _, fun fl0 nfl0 => ?_⟩
    refine ⟨_, rfl, bp, rfl, ⟨_, SqT.of ((same_upd (o := .lst []) nfl0) _ _ hb)⟩, ?_⟩
    refine for_tup (K := K) (a := bp) (xs := bs) (fun i σ H' => ∃ fl us y2, σ = [some (.ref bp), some (.ref fl), y2] ∧ Same H H' ∧ H fl = none ∧ H' fl = some (.lst us) ∧ AtL K H' ((allS (b.take i)).map Stm.dt) us) ⟨fl0, [], _, rfl, same_upd nfl0, nfl0, upd_same, by rw [List.take_zero]; simp [allS, preB, AtL]⟩ (fun i σ H' _ x => by obtain ⟨_, _, _, _, s, _⟩ := x; exact SqT.of (s _ _ hb)) ?_ ?_
    · rintro i x σ H1 hx ⟨fl, us, y2, rfl, s1, nfl, hfl, hL⟩
      have hi : i < b.length := by
        have := (List.getElem?_eq_some_iff.mp hx).1
        omega
      obtain ⟨v2, e1, e2⟩ := hA.get (i := i) (d := b[i].dt) (by rw [List.getElem?_map, List.getElem?_eq_getElem hi]; rfl)
      rw [hx] at e1
      cases e1
      have hmi := List.getElem_mem hi
      have hns := nst_mem hmi
      have hnB := nB_mem hmi
      have etk : b.take (i + 1) = b.take i ++ [b[i]] := by rw [List.take_add_one, List.getElem?_eq_getElem hi]; rfl
      have lus := hL.length
      rw [List.length_map, allS_len] at lus
      have ltk : nB (b.take i) + nS b[i] ≤ 4000 := by
        have := congrArg nB (List.take_append_drop (i + 1) b)
        rw [etk, nB_app, nB_app] at this
        simp only [nB] at this
        omega
      rw [etk, allS_app]
      generalize b[i] = st at e2 hns hnB ltk ⊢
      -- one is put to the list
      refine ⟨_, rfl, .inl ⟨rfl, _, SqL.of hfl⟩, _, rfl, fl, _, _, rfl, rfl, hfl, sz6' (by omega), ?_⟩
      have kp := KpL.put (o := .lst (us ++ [x])) hfl
      have s2 := same_off (o := .lst (us ++ [x])) nfl s1
      have hfl2 : upd H1 fl (.lst (us ++ [x])) fl = some (.lst (us ++ [x])) := upd_same
      have e2' := At.keep s2 e2
      have hL2 : AtL K (upd H1 fl (.lst (us ++ [x]))) ((allS (b.take i) ++ [st]).map Stm.dt) (us ++ [x]) := by
        rw [List.map_append]
        exact AtL.snoc e2' (kyL_at kp.tup (allS_kab _) hL)
      generalize upd H1 fl (.lst (us ++ [x])) = H2 at s2 hfl2 e2' hL2
      obtain ⟨q, r, rfl, hq⟩ := stm_kind e2'
      cases st with
      | ite e vv y n' =>
        have e3 := e2'
        unfold Stm.dt At at e3
        obtain ⟨p3, vs3, e4, hp3, hl3⟩ := e3
        cases e4
        simp only [AtL] at hl3
        obtain ⟨v0, _, rfl, h0, v1, _, rfl, h1, v2, _, rfl, h2, v3, _, rfl, h3, v4, _, rfl, h4, rfl⟩ := hl3
        have hns : max (blkNst y) (blkNst n') + 1 ≤ blkNst b := hns
        simp only [nS] at hnB ltk
        refine ⟨_, rfl, q, _, _, _, rfl, rfl, SqT.of hq, atI_nat (j := 0) rfl, rfl, _, rfl, iteDT rfl ?_⟩
        refine ⟨_, rfl, _, rfl, q, _, _, _, rfl, rfl, SqT.of hp3, atI_nat (j := 3) rfl, v3, y, rfl, h3, by omega, by omega, fun p5 us5 H5 s5 np5 hp5 hL5 => ?_⟩
        have hfl5 := s5 _ _ hfl2
        have l5 := hL5.length
        rw [List.length_map, allS_len] at l5
        refine ⟨fl, p5, _, us5, rfl, rfl, hfl5, hp5, ?_, fun p6 np6 => ?_⟩
        · rw [List.length_append, List.length_singleton]
          exact sz6 (by omega)
        have s6 := same_upd (o := .lst ((us ++ [.ref q]) ++ us5)) np6
        refine ⟨_, rfl, q, _, _, _, rfl, rfl, SqT.of ((s5.trans s6) _ _ hp3), atI_nat (j := 4) rfl, v4, n', rfl, At.keep (s5.trans s6) h4, by omega, by omega, fun p7 us7 H7 s7 np7 hp7 hL7 => ?_⟩
        have l7 := hL7.length
        rw [List.length_map, allS_len] at l7
        refine ⟨p6, p7, _, us7, rfl, rfl, s7 _ _ upd_same, hp7, ?_, fun p8 np8 => ?_⟩
        · rw [List.length_append, List.length_append, List.length_singleton]
          exact sz6 (by omega)
        have s8 := same_upd (o := .lst (((us ++ [.ref q]) ++ us5) ++ us7)) np8
        have s28 := (s5.trans s6).trans (s7.trans s8)
        refine ⟨_, rfl, q, _, _, _, rfl, rfl, SqT.of (s28 _ _ hq), atI_nat (j := 0) rfl, rfl, _, rfl, iteDF (fun e => absurd (V.str.inj e) (by simp only [kindS]; decide +kernel)) ?_⟩
        refine ⟨p8, _, _, rfl, s2.trans s28, (s2.trans ((s5.trans s6).trans s7)).free np8, upd_same, ?_⟩
        rw [allS_ite, ← List.append_assoc, ← List.append_assoc, List.map_append, List.map_append]
        exact AtL.app (AtL.app (AtL.keep s28 hL2) (AtL.keep (s6.trans (s7.trans s8)) hL5)) (AtL.keep s8 hL7)
      | whl e vv y =>
        have e3 := e2'
        unfold Stm.dt At at e3
        obtain ⟨p3, vs3, e4, hp3, hl3⟩ := e3
        cases e4
        simp only [AtL] at hl3
        obtain ⟨v0, _, rfl, h0, v1, _, rfl, h1, v2, _, rfl, h2, v3, _, rfl, h3, rfl⟩ := hl3
        have hns : blkNst y + 1 ≤ blkNst b := hns
        simp only [nS] at hnB ltk
        refine ⟨_, rfl, q, _, _, _, rfl, rfl, SqT.of hq, atI_nat (j := 0) rfl, rfl, _, rfl, iteDF (fun e => absurd (V.str.inj e) (by simp only [kindS]; decide +kernel)) ?_⟩
        refine ⟨_, rfl, q, _, _, _, rfl, rfl, SqT.of hq, atI_nat (j := 0) rfl, rfl, _, rfl, iteDT rfl ?_⟩
        refine ⟨_, rfl, _, rfl, q, _, _, _, rfl, rfl, SqT.of hp3, atI_nat (j := 3) rfl, v3, y, rfl, h3, by omega, by omega, fun p5 us5 H5 s5 np5 hp5 hL5 => ?_⟩
        have hfl5 := s5 _ _ hfl2
        have l5 := hL5.length
        rw [List.length_map, allS_len] at l5
        refine ⟨fl, p5, _, us5, rfl, rfl, hfl5, hp5, ?_, fun p6 np6 => ?_⟩
        · rw [List.length_append, List.length_singleton]
          exact sz6 (by omega)
        have s6 := same_upd (o := .lst ((us ++ [.ref q]) ++ us5)) np6
        refine ⟨p6, _, _, rfl, s2.trans (s5.trans s6), (s2.trans s5).free np6, upd_same, ?_⟩
        rw [allS_whl, ← List.append_assoc, List.map_append]
        exact AtL.app (AtL.keep (s5.trans s6) hL2) (AtL.keep s6 hL5)
      | _ =>
        refine ⟨_, rfl, q, _, _, _, rfl, rfl, SqT.of hq, atI_nat (j := 0) rfl, rfl, _, rfl, iteDF (fun e => absurd (V.str.inj e) (by simp only [kindS]; decide +kernel)) ?_⟩
        refine ⟨_, rfl, q, _, _, _, rfl, rfl, SqT.of hq, atI_nat (j := 0) rfl, rfl, _, rfl, iteDF (fun e => absurd (V.str.inj e) (by simp only [kindS]; decide +kernel)) ?_⟩
        refine ⟨fl, _, _, rfl, s2, nfl, hfl2, ?_⟩
        rw [allS_one]
        simp only [preS, List.map_cons, List.map_nil]
        exact hL2
    · rintro σ H1 ⟨fl, us, y2, rfl, s1, nfl, hfl, hL⟩
      rw [lb, List.take_length] at hL
      exact ⟨_, rfl, k fl us H1 s1 nfl hfl hL⟩
end
end OS

namespace OS
open PySem PySem.Spec PyProof.Rows L2
theorem cut_take {xs : List V} {j : Nat} (h : j ≤ xs.length) : cutV xs none (some (j : Int)) = xs.take j := by
  have e1 : HT.sIx xs.length xs.length (some (j : Int)) = j := by
    rw [HT.sIx_nat]
    omega
  show (xs.drop (HT.sIx xs.length 0 none)).take (HT.sIx xs.length xs.length (some (j : Int)) - HT.sIx xs.length 0 none) = _
  rw [e1]
  rfl
theorem nodup_snoc {l : List Str} {x : Str} : (l ++ [x]).Nodup ↔ l.Nodup ∧ x ∉ l := by
  rw [List.nodup_append]
  constructor
  · rintro ⟨h1, _, h3⟩
    exact ⟨h1, fun h => h3 x h x (by simp) rfl⟩
  · rintro ⟨h1, h2⟩
    exact ⟨h1, by simp, fun a ha b hb e => h2 (by rw [List.mem_singleton] at hb; rw [← hb, ← e]; exact ha)⟩
section
variable {P : Program} {w : World} {K : PySem.W.Frag} {mg : Str → Option Value} {base : Heap}
def spDblT : Sp := fun vs H Q _ => ∃ (p : Addr) (ns : List Str), vs = [.ref p] ∧ H p = some (.tup (ns.map V.str)) ∧ ns.length ≤ 4000 ∧ ∀ H', Same H H' → Q (.bl (decide ¬ ns.Nodup)) H'
def spDblL : Sp := fun vs H Q _ => ∃ (p : Addr) (ns : List Str), vs = [.ref p] ∧ H p = some (.lst (ns.map V.str)) ∧ ns.length ≤ 4000 ∧ ∀ H', Same H H' → Q (.bl (decide ¬ ns.Nodup)) H'
def DInvD (D : Addr) (ns : List Str) (H : Hp) (i : Nat) (H' : Hp) : Prop := ∃ acc, H' D = some (.lst acc) ∧ acc.length ≤ i ∧ (acc = [] ↔ (ns.take i).Nodup) ∧ Same H H'
theorem ok_dblT {f : Addr} {fd : FuncData} (F : Fun K "_law_double" "_law_double" s__law_double f fd) (T : Txt K mg) : FnOk P w K mg base CX0 1 f fd ["names"] spDblT := by
  refine F.ok sc__law_double (fun vs H Q E h => ?_) (fun cdv A outer s H vs Q E hr h => ?_)
  · obtain ⟨p, ns, rfl, _⟩ := h
    rfl
  · obtain ⟨p, ns, rfl, hp, hl, k⟩ := h
    refine ⟨_, (pss_one (ps_ret (pe_cmpR op_gt (pe_callB call_len_seq (by rfl) T.len PySem.boot_len (pa_cons (pe_lc (own := [("k", 1)]) (g := gName 1) (by rfl) sc__law_double.nd (pi_range1 (by rfl) T.range (pa_cons (pe_callB call_len_seq (by rfl) T.len PySem.boot_len (pa_cons (pv 0) pa_nil)) pa_nil)) (blkOk_by (N := ["names", "k"]) (sc := defScope s__law_double) (by decide +kernel)) (fun _ _ _ _ _ => pg_name (i := 1) sc__law_double.nd rfl (by first | exact Or.inl rfl | exact Or.inr rfl)) (fun _ _ _ _ _ => (pts_one (pt_cmpR (show OpR _ (compareOp CmpOp.In) (rIn K false) from op_in_seq) (pe_ix (show IxR _ (rIxT K) from ix_tup) (pv 0) (pv 1) (fun _ _ => rfl)) (pe_slice (show SlR _ (rSlA K) from sl_tupA) (pv 0) po_none (po_some (pv 1))) (by rfl)))) (fun _ _ _ _ _ => (pv 1))) pa_nil)) pe_int (nomark _)))), ?_⟩
    refine ⟨_, rfl, p, _, rfl, .inr (SqT.of hp), _, rfl, by omega, by rw [List.length_map]; omega, fun D nD => ?_⟩
    have en : (((ns.map V.str).length : Nat) : Int).toNat = ns.length := by rw [List.length_map]; omega
    rw [en]
    refine lc_it (walk_range (lo := 0) (n := ns.length)) (DInvD D ns H) ⟨[], upd_same, Nat.le_refl _, by simp, same_upd nD⟩ (fun _ _ _ _ => trivial) ?_ ?_
    · rintro i x H1 H1 hi ⟨acc, hD, la, hac, s1⟩ ⟨rfl, rfl⟩
      show gName 1 (.int (0 + ((i : Nat) : Int))) _ _ _
      rw [Int.zero_add]
      have hp1 := s1 _ _ hp
      refine ⟨rfl, _, rfl, _, rfl, p, _, _, _, rfl, rfl, SqT.of hp1, atI_nat (by rw [List.getElem?_map, List.getElem?_eq_getElem hi]; rfl), _, rfl, _, rfl, _, rfl, sl_take hp1 (by omega) fun q H2 hq s2 => ⟨q, _, rfl, .inr (SqT.of hq), rfl, flat_strs _, _, rfl, ?_⟩⟩
      have hD2 := s2 _ _ hD
      have e1 : (if false = true then !inV (V.str ns[i]) ((ns.take i).map V.str) else inV (V.str ns[i]) ((ns.take i).map V.str)) = decide (ns[i] ∈ ns.take i) := inV_str _ _
      rw [e1]
      have etk : ns.take (i + 1) = ns.take i ++ [ns[i]] := by rw [List.take_add_one, List.getElem?_eq_getElem hi]; rfl
      by_cases c : ns[i] ∈ ns.take i
      · refine iteDT c ⟨_, rfl, acc, hD2, sz6' (by omega), acc ++ [.int (i : Nat)], upd_same, by rw [List.length_append, List.length_singleton]; omega, ?_, same_off nD (s1.trans s2)⟩
        rw [etk, nodup_snoc]
        exact ⟨fun h => by simp at h, fun h => absurd c h.2⟩
      · refine iteDF c ⟨acc, hD2, by omega, ?_, s1.trans s2⟩
        rw [etk, nodup_snoc, hac]
        exact ⟨fun h => ⟨h, c⟩, fun h => h.1⟩
    · rintro H1 ⟨acc, hD, la, hac, s1⟩
      rw [List.take_length] at hac
      refine ⟨D, acc, rfl, .inl (SqL.of hD), _, _, rfl, rfl, ?_⟩
      have e : decide ((0 : Int) < ((acc.length : Nat) : Int)) = decide ¬ ns.Nodup := decide_eq_decide.mpr ⟨fun h n => by rw [hac.mpr n] at h; exact absurd h (by decide), fun h => by
        cases acc with
        | nil => exact absurd (hac.mp rfl) h
        | cons x r => rw [List.length_cons]; omega⟩
      show Q (.bl (decide ((0 : Int) < ((acc.length : Nat) : Int)))) H1
      rw [e]
      exact k H1 s1
theorem ok_dblL {f : Addr} {fd : FuncData} (F : Fun K "_law_double" "_law_double" s__law_double f fd) (T : Txt K mg) : FnOk P w K mg base CX0 1 f fd ["names"] spDblL := by
  refine F.ok sc__law_double (fun vs H Q E h => ?_) (fun cdv A outer s H vs Q E hr h => ?_)
  · obtain ⟨p, ns, rfl, _⟩ := h
    rfl
  · obtain ⟨p, ns, rfl, hp, hl, k⟩ := h
    refine ⟨_, (pss_one (ps_ret (pe_cmpR op_gt (pe_callB call_len_seq (by rfl) T.len PySem.boot_len (pa_cons (pe_lc (own := [("k", 1)]) (g := gName 1) (by rfl) sc__law_double.nd (pi_range1 (by rfl) T.range (pa_cons (pe_callB call_len_seq (by rfl) T.len PySem.boot_len (pa_cons (pv 0) pa_nil)) pa_nil)) (blkOk_by (N := ["names", "k"]) (sc := defScope s__law_double) (by decide +kernel)) (fun _ _ _ _ _ => pg_name (i := 1) sc__law_double.nd rfl (by first | exact Or.inl rfl | exact Or.inr rfl)) (fun _ _ _ _ _ => (pts_one (pt_cmpR (show OpR _ (compareOp CmpOp.In) (rIn K false) from op_in_seq) (pe_ix (show IxR _ (rIxL K) from ix_list) (pv 0) (pv 1) (fun _ _ => rfl)) (pe_slice (show SlR _ (rSlL K) from sl_list) (pv 0) po_none (po_some (pv 1))) (by rfl)))) (fun _ _ _ _ _ => (pv 1))) pa_nil)) pe_int (nomark _)))), ?_⟩
    refine ⟨_, rfl, p, _, rfl, .inl (SqL.of hp), _, rfl, by omega, by rw [List.length_map]; omega, fun D nD => ?_⟩
    have en : (((ns.map V.str).length : Nat) : Int).toNat = ns.length := by rw [List.length_map]; omega
    rw [en]
    refine lc_it (walk_range (lo := 0) (n := ns.length)) (DInvD D ns H) ⟨[], upd_same, Nat.le_refl _, by simp, same_upd nD⟩ (fun _ _ _ _ => trivial) ?_ ?_
    · rintro i x H1 H1 hi ⟨acc, hD, la, hac, s1⟩ ⟨rfl, rfl⟩
      show gName 1 (.int (0 + ((i : Nat) : Int))) _ _ _
      rw [Int.zero_add]
      have hp1 := s1 _ _ hp
      refine ⟨rfl, _, rfl, _, rfl, p, _, _, _, rfl, rfl, SqL.of hp1, atI_nat (by rw [List.getElem?_map, List.getElem?_eq_getElem hi]; rfl), _, rfl, _, rfl, _, rfl, ?_⟩
      refine ⟨p, _, rfl, SqL.of hp1, fun q nq => ⟨q, _, rfl, .inl (SqL.of upd_same), rfl, ?_⟩⟩
      rw [cut_take (by rw [List.length_map]; omega), ← List.map_take]
      refine ⟨flat_strs _, _, rfl, ?_⟩
      have s2 := same_upd (o := .lst ((ns.take i).map V.str)) nq
      have hD2 := s2 _ _ hD
      have e1 : (if false = true then !inV (V.str ns[i]) ((ns.take i).map V.str) else inV (V.str ns[i]) ((ns.take i).map V.str)) = decide (ns[i] ∈ ns.take i) := inV_str _ _
      rw [e1]
      have etk : ns.take (i + 1) = ns.take i ++ [ns[i]] := by rw [List.take_add_one, List.getElem?_eq_getElem hi]; rfl
      by_cases c : ns[i] ∈ ns.take i
      · refine iteDT c ⟨_, rfl, acc, hD2, sz6' (by omega), acc ++ [.int (i : Nat)], upd_same, by rw [List.length_append, List.length_singleton]; omega, ?_, same_off nD (s1.trans s2)⟩
        rw [etk, nodup_snoc]
        exact ⟨fun h => by simp at h, fun h => absurd c h.2⟩
      · refine iteDF c ⟨acc, hD2, by omega, ?_, s1.trans s2⟩
        rw [etk, nodup_snoc, hac]
        exact ⟨fun h => ⟨h, c⟩, fun h => h.1⟩
    · rintro H1 ⟨acc, hD, la, hac, s1⟩
      rw [List.take_length] at hac
      refine ⟨D, acc, rfl, .inl (SqL.of hD), _, _, rfl, rfl, ?_⟩
      have e : decide ((0 : Int) < ((acc.length : Nat) : Int)) = decide ¬ ns.Nodup := decide_eq_decide.mpr ⟨fun h n => by rw [hac.mpr n] at h; exact absurd h (by decide), fun h => by
        cases acc with
        | nil => exact absurd (hac.mp rfl) h
        | cons x r => rw [List.length_cons]; omega⟩
      show Q (.bl (decide ((0 : Int) < ((acc.length : Nat) : Int)))) H1
      rw [e]
      exact k H1 s1
end
end OS

namespace OS
open PySem PySem.Spec PyProof.Rows L2
theorem op_neN {X : Cx} (hu : X.A.units + 64 < cLine) : OpR X (compareOp .NotEq) (fun x y H Q => ∃ a b xs ds, x = .ref a ∧ y = .ref b ∧ SqL X.K H a xs ∧ AtL X.K H ds xs ∧ PyData.canLayAll0 (pys ds) = true ∧ SqL X.K H b [] ∧ Q (.bl (!ds.isEmpty)) H) := by
  intro pins s σ H x y v u Q I rx ry h
  obtain ⟨a, b, xs, ds, rfl, rfl, hq, hd, hc, hb, q⟩ := h
  obtain ⟨as, r1⟩ := Dp.reads I (.list (pys ds)) (.ref a) v (.lst hq (AtL.dp hd)) rx
  obtain ⟨bs, r2⟩ := Dp.reads I (.list []) (.ref b) u (.lst hb .nil) ry
  refine SeqAt.compareNe_reads r1 r2 hc rfl ?_ ⟨.bl _, H, I, ?_, q⟩
  · have h2 : min (PyData.list (pys ds)).depth (PyData.list []).depth ≤ (PyData.list []).depth := Nat.min_le_right _ _
    have h3 : (PyData.list []).depth ≤ 64 := by decide
    omega
  · cases ds <;> rfl
/-! ### the law's own: the rules of a statement, the calls of a part -/
def spOr (A B : Sp) : Sp := fun vs H Q E => A vs H Q E ∨ B vs H Q E
section
variable {P : Program} {w : World} {K : PySem.W.Frag} {mg : Str → Option Value} {base : Heap}
theorem fnOk_or {CX : CXT} {k : Nat} {f : Addr} {fd : FuncData} {ps : List Str} {A B : Sp} (F : FnOk P w K mg base CX k f fd ps A) (G : FnOk P w K mg base CX k f fd ps B) : FnOk P w K mg base CX k f fd ps (spOr A B) :=
  ⟨fun vs H Q E h => h.elim (F.len vs H Q E) (G.len vs H Q E), fun R outer s H args us vs Q E hr he hb hv h => h.elim (F.run R outer s H args us vs Q E hr he hb hv) (G.run R outer s H args us vs Q E hr he hb hv)⟩
def spDbl : Sp := spOr spDblT spDblL
/-- the law's dict of parts, B as it stands -/
def PdAt (K : PySem.W.Frag) (H : Hp) (pd : Addr) (parts : List Prt) (ba : Str → Addr) : Prop := H pd = some (.dK (kf (namesP parts) fun n => .ref (ba n))) ∧ ∀ p ∈ parts, BkAt K H p (ba p.name)
theorem PdAt.keep {H H' : Hp} {pd : Addr} {parts : List Prt} {ba : Str → Addr} (h : PdAt K H pd parts ba) (s : Same H H') : PdAt K H' pd parts ba := ⟨s _ _ h.1, fun p hp => (h.2 p hp).kt fun b ys e => s b _ e⟩
def nmOk (s : Stm) : Prop := ∀ e ∈ endsS s, PyData.strOk e = true
theorem lay_strs : ∀ {es : List Str}, (∀ e ∈ es, PyData.strOk e = true) → PyData.canLayAll0 (pys (es.map Dt.str)) = true
  | [], _ => lay_nil
  | e :: r, h => lay_cons (lay_str (h e (List.mem_cons_self ..))) (lay_strs fun x hx => h x (List.mem_cons_of_mem _ hx))
theorem strs_atL : ∀ (es : List Str), AtL K (fun _ => none) (es.map Dt.str) (es.map V.str)
  | [] => by simp [AtL]
  | e :: r => by
    simp only [List.map_cons, AtL, At]
    exact ⟨_, _, rfl, rfl, strs_atL r⟩
theorem strs_atH {H : Hp} : ∀ (es : List Str), AtL K H (es.map Dt.str) (es.map V.str)
  | [] => by simp [AtL]
  | e :: r => by
    simp only [List.map_cons, AtL, At]
    exact ⟨_, _, rfl, rfl, strs_atH r⟩
def spLSR (K : PySem.W.Frag) : Sp := fun vs H Q _ => ∃ (v : V) (e pd : Addr) (s : Stm) (ends : List Str) (parts : List Prt) (ba : Str → Addr), vs = [v, .ref e, .ref pd] ∧ At K H s.dt v ∧ H e = some (.tup (ends.map V.str)) ∧ PdAt K H pd parts ba ∧ (namesP parts).Nodup ∧ fewE s ∧ nmOk s ∧
  ∀ H', Same H H' → Q (.str ((stmRule (cntP parts) ends s).getD "")) H'
theorem not_in {x : Str} {es : List Str} : (if true = true then !inV (V.str x) (es.map V.str) else inV (V.str x) (es.map V.str)) = decide (x ∉ es) := by
  rw [if_pos rfl, inV_str]
  by_cases c : x ∈ es
  · rw [decide_eq_true c, decide_eq_false (fun n => n c)]
    rfl
  · rw [decide_eq_false c, decide_eq_true c]
    rfl
theorem ok_law_statement_rule {f : Addr} {fd : FuncData} (F : Fun K "_law_statement_rule" "_law_statement_rule" s__law_statement_rule f fd) (T : Txt K mg) {f__law_double : Addr} {d__law_double : FuncData} (c__law_double : Cal P w K mg base 1 "_law_double" ["names"] spDbl f__law_double d__law_double) : FnOk P w K mg base CX0 2 f fd ["one", "ends", "parts"] (spLSR K) := by
  refine F.ok sc__law_statement_rule (fun vs H Q E h => ?_) (fun cdv A outer s H vs Q E hr h => ?_)
  · obtain ⟨v, e, pd, x, ends, parts, ba, rfl, _⟩ := h
    rfl
  · obtain ⟨v, e, pd, x, ends, parts, ba, rfl, hat, he, hpd, nd, few, hnm, k⟩ := h
    have hu := hu_of hr
    obtain ⟨q, r, rfl, hq⟩ := stm_kind hat
    refine ⟨_, (pss_cons (ps_if (pt_cmpR op_eq (pe_ix ix_tup (pv 0) pe_int (fun _ _ => rfl)) pe_str (nomark _)) (pss_cons (ps_if (PW.pt (pw_or (pt_cmp (pc_dnotin hu (pe_ix ix_tup (pv 0) pe_int (fun _ _ => rfl)) (pv 2))) (pw_or (pt_cmpR op_ne (pe_callB call_len_seq (by rfl) T.len PySem.boot_len (pa_cons (pe_ix ix_tup (pe_dget hu (pv 2) (pe_ix ix_tup (pv 0) pe_int (fun _ _ => rfl)) (fun _ _ => rfl)) pe_int (fun _ _ => rfl)) pa_nil)) (pe_callB call_len_seq (by rfl) T.len PySem.boot_len (pa_cons (pe_ix ix_tup (pv 0) pe_int (fun _ _ => rfl)) pa_nil)) (nomark _)) (pw_or1 (pt_val (pe_call c__law_double.G (hr.mono (by decide)) (by rfl) c__law_double.m c__law_double.k c__law_double.b .nil pass0 (pa_cons (pe_ix ix_tup (pv 0) pe_int (fun _ _ => rfl)) pa_nil))))))) (pss_one (ps_ret pe_str)) pss_nil)
      (pss_one (ps_ret (pe_ifExp (pt_cmpR (op_neN hr.units) (pe_lc (own := [("name", 3)]) (g := gName 3) (by rfl) sc__law_statement_rule.nd (pi_tup (pe_ix ix_tup (pv 0) pe_int (fun _ _ => rfl))) (blkOk_by (N := ["one", "ends", "parts", "name"]) (sc := defScope s__law_statement_rule) (by decide +kernel)) (fun _ _ _ _ _ => pg_name (i := 3) sc__law_statement_rule.nd rfl (by first | exact Or.inl rfl | exact Or.inr rfl)) (fun _ _ _ _ _ => (pts_one (pt_cmpR (show OpR _ (compareOp CmpOp.NotIn) (rIn K true) from op_notIn_seq) (pv 3) (pv 1) (by rfl)))) (fun _ _ _ _ _ => (pv 3))) (pe_lst pa_nil) (nomark _)) pe_str pe_str)))) pss_nil)
      (pss_cons (ps_if (PW.pt (pw_or (pt_cmpR op_notIn_seq (pe_ix ix_tup (pv 0) pe_int (fun _ _ => rfl)) (pv 1) (by rfl)) (pw_or1 (PW.pt (pw_and (pt_cmpR op_eq (pe_ix ix_tup (pv 0) pe_int (fun _ _ => rfl)) pe_str (nomark _)) (pw_and1 (pt_cmpR op_notIn_seq (pe_ix ix_tup (pv 0) pe_int (fun _ _ => rfl)) (pv 1) (by rfl)))))))) (pss_one (ps_ret pe_str)) pss_nil)
      (pss_one (ps_ret (pe_ifExp (PW.pt (pw_and (pt_cmpR op_eq (pe_ix ix_tup (pv 0) pe_int (fun _ _ => rfl)) pe_str (nomark _)) (pw_and1 (pt_cmpR op_eq (pe_ix ix_tup (pv 0) pe_int (fun _ _ => rfl)) (pe_ix ix_tup (pv 0) pe_int (fun _ _ => rfl)) (nomark _))))) pe_str pe_str))))), ?_⟩
    refine ⟨_, rfl, q, _, _, _, rfl, rfl, SqT.of hq, atI_nat (j := 0) rfl, rfl, _, rfl, ?_⟩
    cases x with
    | call cn es =>
      obtain ⟨q2, eb, e2, hq2, heb⟩ := call_at hat
      cases e2
      refine iteDT rfl ⟨_, rfl, q, _, _, _, rfl, rfl, SqT.of hq2, atI_nat (j := 1) rfl, _, rfl, pd, _, rfl, DGet.k (k := Sum.inr cn) hpd.1, ?_⟩
      have hbad : ∀ b : Bool, rightC (cntP parts) cn es = b → badCall (cntP parts) (.call cn es) = !b := fun b h => by simp only [badCall, h]
      have rbad : rightC (cntP parts) cn es = false → stmRule (cntP parts) ends (.call cn es) = some ("call" : Str) := fun h => by
        unfold stmRule
        rw [if_pos (by rw [hbad _ h]; rfl)]
      by_cases hin : cn ∈ namesP parts
      · obtain ⟨p, hp, rfl⟩ := List.mem_map.mp hin
        obtain ⟨pa, bv, hba, hpa, _⟩ := hpd.2 p hp
        rw [kf_in hin]
        have dg : DGet H pd (.str p.name) (some (.ref (ba p.name))) := by
          have := DGet.k (k := Sum.inr p.name) hpd.1
          rw [kf_in hin] at this
          exact this
        have hrc : rightC (cntP parts) p.name es = (decide ((es.length : Int) = ((p.params.length : Nat) : Int)) && decide es.Nodup) := by
          unfold rightC
          rw [cnt_some nd hp]
        refine ⟨_, rfl, iteF ⟨_, rfl, _, rfl, q, _, _, _, rfl, rfl, SqT.of hq2, atI_nat (j := 1) rfl, pd, _, rfl, dg, ba p.name, _, _, _, rfl, rfl, SqT.of hba, atI_nat (j := 0) rfl, pa, _, rfl, .inr (SqT.of hpa), _, rfl, q, _, _, _, rfl, rfl, SqT.of hq2, atI_nat (j := 2) rfl, eb, _, rfl, .inr (SqT.of heb), rfl, _, rfl, ?_⟩⟩
        rw [List.length_map, List.length_map]
        by_cases c1 : p.params.length = es.length
        · refine iteNF (by rw [c1]) ⟨_, rfl, q, _, _, _, rfl, rfl, SqT.of hq2, atI_nat (j := 2) rfl, .inl ⟨eb, es, rfl, heb, few, fun H1 s1 => ⟨_, rfl, ?_⟩⟩⟩
          have e1 : decide ((es.length : Int) = ((p.params.length : Nat) : Int)) = true := decide_eq_true (by omega)
          rw [e1, Bool.true_and] at hrc
          by_cases c2 : es.Nodup
          · rw [decide_eq_true c2] at hrc
            refine iteDF (fun n => n c2) ?_
            refine ⟨_, rfl, q, _, _, _, rfl, rfl, SqT.of (s1 _ _ hq2), atI_nat (j := 2) rfl, eb, rfl, ⟨_, SqT.of (s1 _ _ heb)⟩, fun D nD => ?_⟩
            refine lc_it (walk_tup (K := K) (a := eb) (xs := es.map V.str)) (fun i H' => ∃ bad : List Str, H' D = some (.lst (bad.map V.str)) ∧ bad.length ≤ i ∧ (∀ x ∈ bad, x ∈ es) ∧ (bad = [] ↔ ∀ x ∈ es.take i, x ∈ ends) ∧ Same H1 H') ⟨[], upd_same, Nat.le_refl _, fun x h => (by cases h), by simp, same_upd nD⟩ (fun i H' _ x => by obtain ⟨_, _, _, _, _, s⟩ := x; exact SqT.of ((s1.trans s) _ _ heb)) ?_ ?_
            · rintro i x H2 H2 hi ⟨bad, hD, lb, hsub, hiff, s2⟩ ⟨rfl, hx⟩
              rw [List.length_map] at hi
              rw [List.getElem?_map, List.getElem?_eq_getElem hi] at hx
              cases hx
              refine ⟨rfl, _, rfl, _, rfl, e, _, rfl, .inr (SqT.of ((s1.trans s2) _ _ he)), rfl, flat_strs ends, _, rfl, ?_⟩
              rw [not_in]
              have etk : es.take (i + 1) = es.take i ++ [es[i]] := by rw [List.take_add_one, List.getElem?_eq_getElem hi]; rfl
              by_cases c3 : es[i] ∈ ends
              · refine iteDF (fun n => n c3) ⟨bad, hD, by omega, hsub, ?_, s2⟩
                rw [hiff, etk]
                exact ⟨fun h x hx => (List.mem_append.mp hx).elim (h x) fun z => by rw [List.mem_singleton.mp z]; exact c3, fun h x hx => h x (List.mem_append_left _ hx)⟩
              · refine iteDT c3 ⟨_, rfl, _, hD, by rw [List.length_map]; exact sz6' (by have few2 : es.length ≤ 4000 := few; omega), bad ++ [es[i]], by rw [upd_same, List.map_append]; rfl, by rw [List.length_append, List.length_singleton]; omega, fun x hx => (List.mem_append.mp hx).elim (hsub x) fun z => by rw [List.mem_singleton.mp z]; exact List.getElem_mem hi, ?_, same_off nD s2⟩
                rw [etk]
                exact ⟨fun h => by simp at h, fun h => absurd (h es[i] (List.mem_append_right _ (List.mem_singleton.mpr rfl))) c3⟩
            · rintro H2 ⟨bad, hD, lb, hsub, hiff, s2⟩
              rw [List.length_map, List.take_length] at hiff
              refine ⟨Nat.zero_le _, fun D2 nD2 => ?_⟩
              have s3 := same_upd (o := .lst []) nD2
              refine ⟨D, D2, _, bad.map Dt.str, rfl, rfl, SqL.of (s3 _ _ hD), strs_atH bad, lay_strs fun x hx => hnm x (hsub x hx), SqL.of upd_same, _, rfl, ?_⟩
              have hr1 : stmRule (cntP parts) ends (.call p.name es) = if ∃ x ∈ es, x ∉ ends then some ("unknown" : Str) else none := by
                unfold stmRule
                rw [if_neg (by rw [hbad _ hrc]; decide)]
                rfl
              have k3 := k _ ((s1.trans s2).trans s3)
              rw [hr1] at k3
              by_cases c4 : ∃ x ∈ es, x ∉ ends
              · rw [if_pos c4] at k3
                have : bad ≠ [] := fun z => by
                  obtain ⟨x, h1, h2⟩ := c4
                  exact h2 (hiff.mp z x h1)
                cases bad with
                | nil => exact absurd rfl this
                | cons y ys => exact iteT k3
              · rw [if_neg c4] at k3
                have : bad = [] := hiff.mpr fun x hx => Classical.byContradiction fun n => c4 ⟨x, hx, n⟩
                subst this
                exact iteF k3
          · rw [decide_eq_false c2] at hrc
            have k3 := k _ s1
            rw [rbad hrc] at k3
            exact iteDT c2 k3
        · have e1 : decide ((es.length : Int) = ((p.params.length : Nat) : Int)) = false := decide_eq_false (by omega)
          rw [e1, Bool.false_and] at hrc
          have k3 := k H (fun _ _ e => e)
          rw [rbad hrc] at k3
          exact iteNT (fun z => c1 (by injection z with z; omega)) (iteT k3)
      · rw [kf_out hin]
        have hrc : rightC (cntP parts) cn es = false := by
          unfold rightC
          rw [cnt_none hin]
        have k3 := k H (fun _ _ e => e)
        rw [rbad hrc] at k3
        exact ⟨_, rfl, iteT (iteT k3)⟩
    | msg a b l v x =>
      unfold Stm.dt At at hat
      obtain ⟨q2, vs, e2, hq2, hl⟩ := hat
      cases e2
      simp only [AtL, At] at hl
      obtain ⟨_, _, rfl, rfl, _, _, rfl, rfl, _, _, rfl, rfl, _⟩ := hl
      have k3 := k H (fun _ _ e => e)
      have hr1 : stmRule (cntP parts) ends (.msg a b l v x) = if ∃ e ∈ [a, b], e ∉ ends then some ("unknown" : Str) else if decide (a = b) = true then some ("self" : Str) else none := by
        unfold stmRule
        rw [if_neg (by simp only [badCall]; decide)]
        rfl
      rw [hr1] at k3
      refine iteDF (fun e => absurd (V.str.inj e) (by simp only [kindS]; decide +kernel)) ?_
      refine ⟨_, rfl, q, _, _, _, rfl, rfl, SqT.of hq2, atI_nat (j := 1) rfl, _, rfl, e, _, rfl, .inr (SqT.of he), rfl, flat_strs ends, _, rfl, ?_⟩
      rw [not_in]
      by_cases c1 : a ∈ ends
      · refine iteDF (fun n => n c1) ⟨_, rfl, q, _, _, _, rfl, rfl, SqT.of hq2, atI_nat (j := 0) rfl, rfl, _, rfl, iteDT rfl ⟨_, rfl, q, _, _, _, rfl, rfl, SqT.of hq2, atI_nat (j := 2) rfl, _, rfl, e, _, rfl, .inr (SqT.of he), rfl, flat_strs ends, _, rfl, ?_⟩⟩
        rw [not_in]
        by_cases c2 : b ∈ ends
        · rw [if_neg (by rintro ⟨z, hz, hn⟩; simp at hz; rcases hz with rfl | rfl; exact hn c1; exact hn c2)] at k3
          refine iteDF (fun n => n c2) ⟨_, rfl, q, _, _, _, rfl, rfl, SqT.of hq2, atI_nat (j := 0) rfl, rfl, _, rfl, iteDT rfl ⟨_, rfl, q, _, _, _, rfl, rfl, SqT.of hq2, atI_nat (j := 1) rfl, _, rfl, q, _, _, _, rfl, rfl, SqT.of hq2, atI_nat (j := 2) rfl, rfl, _, rfl, ?_⟩⟩
          by_cases c3 : a = b
          · rw [if_pos (decide_eq_true c3)] at k3
            exact iteDT (by rw [c3]) k3
          · rw [if_neg (fun z => c3 (of_decide_eq_true z))] at k3
            exact iteDF (fun z => c3 (V.str.inj z)) k3
        · rw [if_pos ⟨b, by simp, c2⟩] at k3
          exact iteDT c2 k3
      · rw [if_pos ⟨a, by simp, c1⟩] at k3
        exact iteDT c1 (iteT k3)
    | set a y v =>
      unfold Stm.dt At at hat
      obtain ⟨q2, vs, e2, hq2, hl⟩ := hat
      cases e2
      simp only [AtL] at hl
      obtain ⟨v0, _, rfl, h0, v1, _, rfl, h1, _⟩ := hl
      unfold At at h0 h1
      subst h0 h1
      have k3 := k H (fun _ _ e => e)
      have hr1 : stmRule (cntP parts) ends (.set a y v) = if ∃ e ∈ [a], e ∉ ends then some ("unknown" : Str) else none := by
        unfold stmRule
        rw [if_neg (by simp only [badCall]; decide), if_neg (c := selfM _ = true) (by simp only [selfM]; decide)]
        rfl
      rw [hr1] at k3
      refine iteDF (fun e => absurd (V.str.inj e) (by simp only [kindS]; decide +kernel)) ?_
      refine ⟨_, rfl, q, _, _, _, rfl, rfl, SqT.of hq2, atI_nat (j := 1) rfl, _, rfl, e, _, rfl, .inr (SqT.of he), rfl, flat_strs ends, _, rfl, ?_⟩
      rw [not_in]
      by_cases c1 : a ∈ ends
      · rw [if_neg (by rintro ⟨z, hz, hn⟩; simp at hz; rw [hz] at hn; exact hn c1)] at k3
        refine iteDF (fun n => n c1) ⟨_, rfl, q, _, _, _, rfl, rfl, SqT.of hq2, atI_nat (j := 0) rfl, rfl, _, rfl, iteDF (fun e => absurd (V.str.inj e) (by decide +kernel)) (iteF ?_)⟩
        exact ⟨_, rfl, q, _, _, _, rfl, rfl, SqT.of hq2, atI_nat (j := 0) rfl, rfl, _, rfl, iteDF (fun e => absurd (V.str.inj e) (by decide +kernel)) (iteF k3)⟩
      · rw [if_pos ⟨a, by simp, c1⟩] at k3
        exact iteDT c1 (iteT k3)
    | ask a y =>
      unfold Stm.dt At at hat
      obtain ⟨q2, vs, e2, hq2, hl⟩ := hat
      cases e2
      simp only [AtL] at hl
      obtain ⟨v0, _, rfl, h0, v1, _, rfl, h1, _⟩ := hl
      unfold At at h0 h1
      subst h0 h1
      have k3 := k H (fun _ _ e => e)
      have hr1 : stmRule (cntP parts) ends (.ask a y) = if ∃ e ∈ [a], e ∉ ends then some ("unknown" : Str) else none := by
        unfold stmRule
        rw [if_neg (by simp only [badCall]; decide), if_neg (c := selfM _ = true) (by simp only [selfM]; decide)]
        rfl
      rw [hr1] at k3
      refine iteDF (fun e => absurd (V.str.inj e) (by simp only [kindS]; decide +kernel)) ?_
      refine ⟨_, rfl, q, _, _, _, rfl, rfl, SqT.of hq2, atI_nat (j := 1) rfl, _, rfl, e, _, rfl, .inr (SqT.of he), rfl, flat_strs ends, _, rfl, ?_⟩
      rw [not_in]
      by_cases c1 : a ∈ ends
      · rw [if_neg (by rintro ⟨z, hz, hn⟩; simp at hz; rw [hz] at hn; exact hn c1)] at k3
        refine iteDF (fun n => n c1) ⟨_, rfl, q, _, _, _, rfl, rfl, SqT.of hq2, atI_nat (j := 0) rfl, rfl, _, rfl, iteDF (fun e => absurd (V.str.inj e) (by decide +kernel)) (iteF ?_)⟩
        exact ⟨_, rfl, q, _, _, _, rfl, rfl, SqT.of hq2, atI_nat (j := 0) rfl, rfl, _, rfl, iteDF (fun e => absurd (V.str.inj e) (by decide +kernel)) (iteF k3)⟩
      · rw [if_pos ⟨a, by simp, c1⟩] at k3
        exact iteDT c1 (iteT k3)
    | ite a v y n =>
      unfold Stm.dt At at hat
      obtain ⟨q2, vs, e2, hq2, hl⟩ := hat
      cases e2
      simp only [AtL] at hl
      obtain ⟨v0, _, rfl, h0, v1, _, rfl, h1, _⟩ := hl
      unfold At at h0 h1
      subst h0 h1
      have k3 := k H (fun _ _ e => e)
      have hr1 : stmRule (cntP parts) ends (.ite a v y n) = if ∃ e ∈ [a], e ∉ ends then some ("unknown" : Str) else none := by
        unfold stmRule
        rw [if_neg (by simp only [badCall]; decide), if_neg (c := selfM _ = true) (by simp only [selfM]; decide)]
        rfl
      rw [hr1] at k3
      refine iteDF (fun e => absurd (V.str.inj e) (by simp only [kindS]; decide +kernel)) ?_
      refine ⟨_, rfl, q, _, _, _, rfl, rfl, SqT.of hq2, atI_nat (j := 1) rfl, _, rfl, e, _, rfl, .inr (SqT.of he), rfl, flat_strs ends, _, rfl, ?_⟩
      rw [not_in]
      by_cases c1 : a ∈ ends
      · rw [if_neg (by rintro ⟨z, hz, hn⟩; simp at hz; rw [hz] at hn; exact hn c1)] at k3
        refine iteDF (fun n => n c1) ⟨_, rfl, q, _, _, _, rfl, rfl, SqT.of hq2, atI_nat (j := 0) rfl, rfl, _, rfl, iteDF (fun e => absurd (V.str.inj e) (by decide +kernel)) (iteF ?_)⟩
        exact ⟨_, rfl, q, _, _, _, rfl, rfl, SqT.of hq2, atI_nat (j := 0) rfl, rfl, _, rfl, iteDF (fun e => absurd (V.str.inj e) (by decide +kernel)) (iteF k3)⟩
      · rw [if_pos ⟨a, by simp, c1⟩] at k3
        exact iteDT c1 (iteT k3)
    | whl a v y =>
      unfold Stm.dt At at hat
      obtain ⟨q2, vs, e2, hq2, hl⟩ := hat
      cases e2
      simp only [AtL] at hl
      obtain ⟨v0, _, rfl, h0, v1, _, rfl, h1, _⟩ := hl
      unfold At at h0 h1
      subst h0 h1
      have k3 := k H (fun _ _ e => e)
      have hr1 : stmRule (cntP parts) ends (.whl a v y) = if ∃ e ∈ [a], e ∉ ends then some ("unknown" : Str) else none := by
        unfold stmRule
        rw [if_neg (by simp only [badCall]; decide), if_neg (c := selfM _ = true) (by simp only [selfM]; decide)]
        rfl
      rw [hr1] at k3
      refine iteDF (fun e => absurd (V.str.inj e) (by simp only [kindS]; decide +kernel)) ?_
      refine ⟨_, rfl, q, _, _, _, rfl, rfl, SqT.of hq2, atI_nat (j := 1) rfl, _, rfl, e, _, rfl, .inr (SqT.of he), rfl, flat_strs ends, _, rfl, ?_⟩
      rw [not_in]
      by_cases c1 : a ∈ ends
      · rw [if_neg (by rintro ⟨z, hz, hn⟩; simp at hz; rw [hz] at hn; exact hn c1)] at k3
        refine iteDF (fun n => n c1) ⟨_, rfl, q, _, _, _, rfl, rfl, SqT.of hq2, atI_nat (j := 0) rfl, rfl, _, rfl, iteDF (fun e => absurd (V.str.inj e) (by decide +kernel)) (iteF ?_)⟩
        exact ⟨_, rfl, q, _, _, _, rfl, rfl, SqT.of hq2, atI_nat (j := 0) rfl, rfl, _, rfl, iteDF (fun e => absurd (V.str.inj e) (by decide +kernel)) (iteF k3)⟩
      · rw [if_pos ⟨a, by simp, c1⟩] at k3
        exact iteDT c1 (iteT k3)
end
end OS

namespace OS
open PySem PySem.Spec PyProof.Rows L2
/-! ### the law's own: circles -/
section
variable {X : Cx}
/-- len of a dict, locked or not -/
theorem call_lenR : CallR X (.builtin "len") (fun xs H Q => ∃ a kvs, xs = [V.ref a] ∧ L2.Rd H a (.dK kvs) ∧ Q (.int kvs.length) H) := by
  intro pins s σ H xs us Q I r h
  obtain ⟨a, kvs, rfl, ha, q⟩ := h
  obtain ⟨u, rfl, ru⟩ := vals1 r
  cases ru
  exact d_len I ha fun t s' I' => ⟨.int kvs.length, H, I', ⟨t, rfl⟩, q⟩
end
/-- the parts that this one calls -/
def callsP (parts : List Prt) (n : Str) : List Str := match findP parts n with
  | some p => callsB p.body
  | none => []
theorem callsP_of {parts : List Prt} (nd : (namesP parts).Nodup) {p : Prt} (hp : p ∈ parts) : callsP parts p.name = callsB p.body := by
  unfold callsP
  rw [findP_of nd hp]
theorem calls_callers {parts : List Prt} (nd : (namesP parts).Nodup) {a b : Str} : a ∈ callsP parts b ↔ b ∈ callersP parts a := by
  rw [callers_mem]
  constructor
  · intro h
    unfold callsP at h
    cases hf : findP parts b with
    | none => rw [hf] at h; cases h
    | some p =>
      rw [hf] at h
      exact ⟨p, List.mem_of_find?_eq_some hf, h, by have := List.find?_some hf; exact of_decide_eq_true this⟩
  · rintro ⟨p, hp, h, rfl⟩
    rw [callsP_of nd hp]
    exact h
theorem pth_rev {parts : List Prt} (nd : (namesP parts).Nodup) {a b : Str} (h : Kn.Pth (callsP parts) a b) : Kn.Pth (callersP parts) b a := by
  induction h with
  | one h => exact .one ((calls_callers nd).mp h)
  | cons h _ ih => exact ih.snoc ((calls_callers nd).mp h)
theorem pth_rev2 {parts : List Prt} (nd : (namesP parts).Nodup) {a b : Str} (h : Kn.Pth (callersP parts) a b) : Kn.Pth (callsP parts) b a := by
  induction h with
  | one h => exact .one ((calls_callers nd).mpr h)
  | cons h _ ih => exact ih.snoc ((calls_callers nd).mpr h)
theorem circ_iff {parts : List Prt} (nd : (namesP parts).Nodup) : Kn.Circ (namesP parts) (callersP parts) ↔ ∃ a ∈ namesP parts, Kn.Pth (callsP parts) a a :=
  ⟨fun ⟨a, h1, h2⟩ => ⟨a, h1, pth_rev2 nd h2⟩, fun ⟨a, h1, h2⟩ => ⟨a, h1, pth_rev nd h2⟩⟩
/-- how many of these names are reached -/
def cntR (ns R : List Str) : Nat := (ns.filter fun n => decide (n ∈ R)).length
def Closed (q : Str → List Str) (R : List Str) : Prop := ∀ x ∈ R, ∀ y ∈ q x, y ∈ R
theorem cntR_le (ns R : List Str) : cntR ns R ≤ ns.length := List.length_filter_le ..
theorem cntR_mono {ns R R' : List Str} (nd : ns.Nodup) (h : ∀ x ∈ R, x ∈ R') : cntR ns R ≤ cntR ns R' :=
  List.Nodup.length_le_of_subset (nd.filter _) fun x hx => by
    obtain ⟨h1, h2⟩ := List.mem_filter.mp hx
    exact List.mem_filter.mpr ⟨h1, decide_eq_true (h x (of_decide_eq_true h2))⟩
theorem cntR_lt {ns R R' : List Str} (nd : ns.Nodup) (h : ∀ x ∈ R, x ∈ R') {y : Str} (hy : y ∈ ns) (h1 : y ∈ R') (h2 : y ∉ R) : cntR ns R + 1 ≤ cntR ns R' := by
  have := List.Nodup.length_le_of_subset (l₁ := y :: ns.filter fun n => decide (n ∈ R)) (l₂ := ns.filter fun n => decide (n ∈ R')) (List.nodup_cons.mpr ⟨fun z => h2 (of_decide_eq_true (List.mem_filter.mp z).2), nd.filter _⟩) fun x hx => by
    rcases List.mem_cons.mp hx with rfl | hx
    · exact List.mem_filter.mpr ⟨hy, decide_eq_true h1⟩
    · obtain ⟨e1, e2⟩ := List.mem_filter.mp hx
      exact List.mem_filter.mpr ⟨e1, decide_eq_true (h x (of_decide_eq_true e2))⟩
  rw [List.length_cons] at this
  exact this
theorem closed_pth {q : Str → List Str} {R : List Str} (c : Closed q R) {a b : Str} (h : Kn.Pth q a b) : (∀ y ∈ q a, y ∈ R) → b ∈ R := by
  induction h with
  | one h => exact fun k => k _ h
  | cons h _ ih => exact fun k => ih fun y hy => c _ (k _ h) y hy
/-- what is reached from n after some rounds -/
structure RInv (parts : List Prt) (n : Str) (R : List Str) : Prop where
  sub : ∀ y ∈ callsP parts n, y ∈ R
  snd : ∀ x ∈ R, Kn.Pth (callsP parts) n x
  ins : ∀ x ∈ R, x ∈ namesP parts
  len : R.length ≤ 4000 * (1 + cntR (namesP parts) R)
section
variable {P : Program} {w : World} {K : PySem.W.Frag} {mg : Str → Option Value} {base : Heap}
/-- the law's dict of parts, locked or not -/
def PdR (K : PySem.W.Frag) (H : Hp) (pd : Addr) (parts : List Prt) (ba : Str → Addr) : Prop := L2.Rd H pd (.dK (kf (namesP parts) fun n => .ref (ba n))) ∧ ∀ p ∈ parts, BkAt K H p (ba p.name)
theorem PdR.keep {H H' : Hp} {pd : Addr} {parts : List Prt} {ba : Str → Addr} (h : PdR K H pd parts ba) (s : Same H H') : PdR K H' pd parts ba :=
  ⟨h.1.elim (fun e => .inl (s _ _ e)) fun ⟨o, e⟩ => .inr ⟨o, s _ _ e⟩, fun p hp => (h.2 p hp).kt fun b ys e => s b _ e⟩
theorem PdR.get {H : Hp} {pd : Addr} {parts : List Prt} {ba : Str → Addr} (h : PdR K H pd parts ba) {p : Prt} (hp : p ∈ parts) : DGet H pd (.str p.name) (some (.ref (ba p.name))) :=
  .inl ⟨_, Sum.inr p.name, h.1, rfl, (kf_in (f := fun n => V.ref (ba n)) (ns := namesP parts) (n := p.name) (List.mem_map.mpr ⟨p, hp, rfl⟩)).symm⟩
theorem allS_calls (b : List Stm) : (allS b).filterMap callS = callsB b := by
  unfold allS callsB
  rw [List.filterMap_map]
  rfl
def spLC (K : PySem.W.Frag) : Sp := fun vs H Q _ => ∃ (pd : Addr) (parts : List Prt) (ba : Str → Addr) (p : Prt), vs = [.ref pd, .str p.name] ∧ PdR K H pd parts ba ∧ p ∈ parts ∧ blkNst p.body < 20 ∧ nB p.body ≤ 4000 ∧ ∀ l H', Same H H' → H l = none → H' l = some (.lst ((callsB p.body).map V.str)) → Q (.ref l) H'
theorem ok_law_calls {f : Addr} {fd : FuncData} (F : Fun K "_law_calls" "_law_calls" s__law_calls f fd) (T : Txt K mg) {f__law_all : Addr} {d__law_all : FuncData} (c__law_all : Cal P w K mg base 21 "_law_all" ["block"] (spAll K 20) f__law_all d__law_all) : FnOk P w K mg base CX0 22 f fd ["parts", "name"] (spLC K) := by
  refine F.ok sc__law_calls (fun vs H Q E h => ?_) (fun cdv A outer s H vs Q E hr h => ?_)
  · obtain ⟨pd, parts, ba, p, rfl, _⟩ := h
    rfl
  · obtain ⟨pd, parts, ba, p, rfl, hpd, hp, hn, hb, k⟩ := h
    have hu := hu_of hr
    obtain ⟨pa, bv, hba, hpa, hbv⟩ := hpd.2 p hp
    refine ⟨_, (pss_one (ps_ret (pe_lc (own := [("one", 2)]) (g := gName 2) (by rfl) sc__law_calls.nd (pi_list (pe_call c__law_all.G (hr.mono (by decide)) (by rfl) c__law_all.m c__law_all.k c__law_all.b .nil pass0 (pa_cons (pe_ix ix_tup (pe_dget hu (pv 0) (pv 1) (fun _ _ => rfl)) pe_int (fun _ _ => rfl)) pa_nil))) (blkOk_by (N := ["parts", "name", "one"]) (sc := defScope s__law_calls) (by decide +kernel)) (fun _ _ _ _ _ => pg_name (i := 2) sc__law_calls.nd rfl (by first | exact Or.inl rfl | exact Or.inr rfl)) (fun _ _ _ _ _ => (pts_one (pt_cmpR op_eq (pe_ix (show IxR _ (rIxT K) from ix_tup) (pv 2) pe_int (fun _ _ => rfl)) pe_str (nomark _)))) (fun _ _ _ _ _ => (pe_ix (show IxR _ (rIxT K) from ix_tup) (pv 2) pe_int (fun _ _ => rfl)))))), ?_⟩
    refine ⟨_, rfl, _, rfl, pd, _, rfl, hpd.get hp, ba p.name, _, _, _, rfl, rfl, SqT.of hba, atI_nat (j := 1) rfl, bv, p.body, rfl, hbv, hn, hb, fun l us H1 s1 nl hl hA => ⟨l, rfl, ⟨_, SqL.of hl⟩, fun D nD => ?_⟩⟩
    have lus := hA.length
    rw [List.length_map] at lus
    refine lc_it (walk_list (K := K) (a := l) (xs := us)) (fun i H' => H' D = some (.lst ((((allS p.body).take i).filterMap callS).map V.str)) ∧ Same H1 H') ⟨by rw [List.take_zero]; exact upd_same, same_upd nD⟩ (fun i H' _ x => SqL.of (x.2 _ _ hl)) ?_ ?_
    · rintro i x H2 H2 hi ⟨hD, s2⟩ ⟨rfl, hx⟩
      have hi : i < (allS p.body).length := by omega
      obtain ⟨v2, e1, e2⟩ := hA.get (i := i) (d := (allS p.body)[i].dt) (by rw [List.getElem?_map, List.getElem?_eq_getElem hi]; rfl)
      rw [hx] at e1
      cases e1
      have e2 := At.keep s2 e2
      have etk : (allS p.body).take (i + 1) = (allS p.body).take i ++ [(allS p.body)[i]] := by rw [List.take_add_one, List.getElem?_eq_getElem hi]; rfl
      rw [etk, List.filterMap_append]
      have ll : (((allS p.body).take i).filterMap callS).length ≤ 4000 := by
        refine Nat.le_trans (List.length_filterMap_le ..) ?_
        rw [List.length_take]
        rw [allS_len] at hi ⊢
        omega
      generalize (allS p.body)[i] = st at e2 ⊢
      obtain ⟨q, r, rfl, hq⟩ := stm_kind e2
      refine ⟨rfl, _, rfl, q, _, _, _, rfl, rfl, SqT.of hq, atI_nat (j := 0) rfl, rfl, _, rfl, ?_⟩
      cases st with
      | call cn es =>
        obtain ⟨q2, eb, e3, hq2, heb⟩ := call_at e2
        cases e3
        refine iteDT rfl ⟨_, rfl, q, _, _, _, rfl, rfl, SqT.of hq2, atI_nat (j := 1) rfl, _, hD, by rw [List.length_map]; exact sz6' (by omega), ?_, same_off nD s2⟩
        rw [upd_same, List.map_append]
        rfl
      | _ =>
        refine iteDF (fun e => absurd (V.str.inj e) (by simp only [kindS]; decide +kernel)) ⟨?_, s2⟩
        rw [hD]
        simp [callS]
    · rintro H2 ⟨hD, s2⟩
      rw [lus, List.take_length, allS_calls] at hD
      exact k D H2 (s1.trans s2) (s1.free nD) hD
structure CircOk (parts : List Prt) : Prop where
  nd : (namesP parts).Nodup
  few : parts.length ≤ 12
  hin : ∀ p ∈ parts, ∀ q ∈ callsB p.body, q ∈ namesP parts
  n : ∀ p ∈ parts, blkNst p.body < 20
  nb : ∀ p ∈ parts, nB p.body ≤ 4000
theorem callsB_len (b : List Stm) : (callsB b).length ≤ nB b := by
  unfold callsB
  refine Nat.le_trans (List.length_filterMap_le ..) ?_
  rw [preB_len]
  exact Nat.le_refl _
def spCirc (K : PySem.W.Frag) : Sp := fun vs H Q _ => ∃ (pd : Addr) (parts : List Prt) (ba : Str → Addr), vs = [.ref pd] ∧ PdAt K H pd parts ba ∧ CircOk parts ∧ ∀ b : Bool, (b = true ↔ Kn.Circ (namesP parts) (callersP parts)) → ∀ H', Same H H' → Q (.bl b) H'
theorem ok_law_circle {f : Addr} {fd : FuncData} (F : Fun K "_law_circle" "_law_circle" s__law_circle f fd) (T : Txt K mg) {f__law_calls : Addr} {d__law_calls : FuncData} (c__law_calls : Cal P w K mg base 22 "_law_calls" ["parts", "name"] (spLC K) f__law_calls d__law_calls) : FnOk P w K mg base CX0 23 f fd ["parts"] (spCirc K) := by
  refine F.ok sc__law_circle (fun vs H Q E h => ?_) (fun cdv A outer s H vs Q E hr h => ?_)
  · obtain ⟨pd, parts, ba, rfl, _⟩ := h
    rfl
  · obtain ⟨pd, parts, ba, rfl, hpd, ok, k⟩ := h
    have hu := hu_of hr
    have lnm : (namesP parts).length = parts.length := List.length_map ..
    have few := ok.few
    refine ⟨_, (pss_cons (ps_lock (ps_for PassesOwn.never rfl (pi_keys (pv 0)) (pg_name (i := 1) sc__law_circle.nd rfl (.inl rfl)) (Evl.pss_cut (ps_set (i := 2) sc__law_circle.nd rfl (.inr rfl) (pe_call c__law_calls.G (hr.mono (by decide)) (by rfl) c__law_calls.m c__law_calls.k c__law_calls.b .nil pass0 (pa_cons (pv 0) (pa_cons (pv 1) pa_nil))))
      (Evl.pss_cut (ps_for PassesOwn.never rfl (pi_range1 (by rfl) T.range (pa_cons (pe_op op_add (pe_callB call_lenR (by rfl) T.len PySem.boot_len (pa_cons (pv 0) pa_nil)) pe_int) pa_nil)) (pg_name (i := 3) sc__law_circle.nd rfl (.inl rfl)) (pss_one (ps_for PassesOwn.never rfl (pi_list (pe_callTy call_list_of (by rfl) T.list (by decide +kernel) (pa_cons (pv 2) pa_nil))) (pg_name (i := 4) sc__law_circle.nd rfl (.inl rfl)) (pss_one (ps_set (i := 2) sc__law_circle.nd rfl (.inr rfl) (pe_op op_cat (pv 2) (pe_lc (own := [("one", 5)]) (g := gName 5) (by rfl) sc__law_circle.nd (pi_list (pe_call c__law_calls.G (hr.mono (by decide)) (by rfl) c__law_calls.m c__law_calls.k c__law_calls.b .nil pass0 (pa_cons (pv 0) (pa_cons (pv 4) pa_nil)))) (blkOk_by (N := ["parts", "name", "reached", "k", "other", "one"]) (sc := defScope s__law_circle) (by decide +kernel)) (fun _ _ _ _ _ => pg_name (i := 5) sc__law_circle.nd rfl (by first | exact Or.inl rfl | exact Or.inr rfl)) (fun _ _ _ _ _ => (pts_one (pt_cmpR (show OpR _ (compareOp CmpOp.NotIn) (rIn K true) from op_notIn_seq) (pv 5) (pv 2) (by rfl)))) (fun _ _ _ _ _ => (pv 5)))))))))
      (pss_one (ps_if (pt_cmpR op_in_seq (pv 1) (pv 2) (by rfl)) (pss_one (ps_ret pe_bl)) pss_nil))))))
      (pss_one (ps_ret pe_bl))), ?_⟩
    refine ⟨pd, _, hpd.1, trivial, fun od => ?_⟩
    -- the heap with the dict locked
    have unl : ∀ {H' : Hp}, Same (upd H pd (.frz od (.dK (kf (namesP parts) fun n => .ref (ba n))))) H' → Same H (upd H' pd (.dK (kf (namesP parts) fun n => .ref (ba n)))) := fun {H'} s b o e => by
      by_cases c : b = pd
      · subst c
        rw [hpd.1] at e
        rw [upd_same, ← e]
      · rw [upd_ne c]
        refine s b o ?_
        rw [upd_ne c]
        exact e
    have hR : PdR K (upd H pd (.frz od (.dK (kf (namesP parts) fun n => .ref (ba n))))) pd parts ba := ⟨.inr ⟨od, upd_same⟩, fun p hp => (hpd.2 p hp).kt (tup_dict hpd.1)⟩
    have hf : upd H pd (.frz od (.dK (kf (namesP parts) fun n => .ref (ba n)))) pd = some (.frz od (.dK (kf (namesP parts) fun n => .ref (ba n)))) := upd_same
    generalize upd H pd (.frz od (.dK (kf (namesP parts) fun n => .ref (ba n)))) = H1 at unl hR hf
    refine ⟨_, rfl, pd, od, rfl, .inl ⟨_, hf, ?_⟩⟩
    refine for_it walk_keys (fun i σ H' => ∃ y1 y2 y3 y4, σ = [some (.ref pd), y1, y2, y3, y4, none] ∧ Same H1 H' ∧ ∀ n ∈ (namesP parts).take i, ¬ Kn.Pth (callsP parts) n n) ⟨_, _, _, _, rfl, fun _ _ e => e, fun n hn => (by rw [List.take_zero] at hn; cases hn)⟩ (fun i σ H' _ x => by obtain ⟨_, _, _, _, _, s, _⟩ := x; exact s _ _ hf) ?_ ?_
    · rintro i x σ H2 H2 hi ⟨y1, y2, y3, y4, rfl, s2, hno⟩ ⟨rfl, kk, vv, hkv, rfl⟩
      rw [kf_len, lnm] at hi
      obtain ⟨n, en, rfl, rfl⟩ := kf_key hkv
      have en2 : n = parts[i].name := by
        simp only [namesP, List.getElem?_map, List.getElem?_eq_getElem hi, Option.map_some, Option.some.injEq] at en
        exact en.symm
      subst en2
      have hmi := List.getElem_mem hi
      have hpn : parts[i].name ∈ namesP parts := List.mem_map.mpr ⟨_, hmi, rfl⟩
      have hcp := callsP_of ok.nd hmi
      have hR2 := hR.keep s2
      refine ⟨fun σ H' => ∃ rl R, σ = [some (.ref pd), some (.str parts[i].name), some (.ref rl), y3, y4, none] ∧ Same H1 H' ∧ H' rl = some (.lst (R.map V.str)) ∧ RInv parts parts[i].name R ∧ (Closed (callsP parts) R ∨ 1 ≤ cntR (namesP parts) R), ?_, ?_⟩
      · refine ⟨_, rfl, _, rfl, pd, parts, ba, parts[i], rfl, hR2, hmi, ok.n _ hmi, ok.nb _ hmi, fun l H3 s3 nl hl => ?_⟩
        refine ⟨l, callsB parts[i].body, rfl, s2.trans s3, hl, ⟨fun y hy => by rw [hcp] at hy; exact hy, fun x hx => .one (by rw [hcp]; exact hx), fun x hx => ok.hin _ hmi x hx, ?_⟩, ?_⟩
        · have h1 := callsB_len parts[i].body
          have h2 := ok.nb _ hmi
          have h3 : 4000 * 1 ≤ 4000 * (1 + cntR (namesP parts) (callsB parts[i].body)) := Nat.mul_le_mul_left _ (by omega)
          omega
        · cases hc : callsB parts[i].body with
          | nil => exact .inl fun x hx => by cases hx
          | cons y r =>
            right
            have hy : y ∈ callsB parts[i].body := by rw [hc]; exact List.mem_cons_self ..
            unfold cntR
            exact List.length_pos_of_mem (List.mem_filter.mpr ⟨ok.hin _ hmi y hy, decide_eq_true (List.mem_cons_self ..)⟩)
      rintro σ H3 ⟨rl0, R0, rfl, s3, hrl0, I0, hc0⟩
      refine ⟨fun σ H' => ∃ rl R y3 y4, σ = [some (.ref pd), some (.str parts[i].name), some (.ref rl), y3, y4, none] ∧ Same H1 H' ∧ H' rl = some (.lst (R.map V.str)) ∧ RInv parts parts[i].name R ∧ Closed (callsP parts) R, ?_, ?_⟩
      · refine ⟨_, rfl, pd, _, rfl, (hR.keep s3).1, _, _, rfl, rfl, _, rfl, ?_, ?_, ?_⟩
        · rw [kf_len, lnm]; omega
        · rw [kf_len, lnm]; omega
        have en : ((((kf (namesP parts) fun n => V.ref (ba n)).length : Nat) : Int) + 1).toNat = parts.length + 1 := by rw [kf_len, lnm]; omega
        rw [en]
        refine for_it (walk_range (lo := 0) (n := parts.length + 1)) (fun kk σ H' => ∃ rl R y3 y4, σ = [some (.ref pd), some (.str parts[i].name), some (.ref rl), y3, y4, none] ∧ Same H1 H' ∧ H' rl = some (.lst (R.map V.str)) ∧ RInv parts parts[i].name R ∧ (Closed (callsP parts) R ∨ kk + 1 ≤ cntR (namesP parts) R)) ⟨rl0, R0, _, _, rfl, s3, hrl0, I0, hc0⟩ (fun _ _ _ _ _ => trivial) ?_ ?_
        · rintro kk x σ H4 H4 hk ⟨rl, R, y3, y4, rfl, s4, hrl, I, hc⟩ ⟨rfl, rfl⟩
          refine ⟨_, rfl, rl, _, rfl, .inl (SqL.of hrl), fun cl ncl => ⟨cl, rfl, ⟨_, SqL.of upd_same⟩, ?_⟩⟩
          have s5 := same_upd (o := .lst (R.map V.str)) ncl
          have hcl5 : upd H4 cl (.lst (R.map V.str)) cl = some (.lst (R.map V.str)) := upd_same
          refine for_list (K := K) (a := cl) (xs := R.map V.str) (fun j σ H' => ∃ rl' R' y4, σ = [some (.ref pd), some (.str parts[i].name), some (.ref rl'), some (.int (0 + ((kk : Nat) : Int))), y4, none] ∧ Same H1 H' ∧ H' rl' = some (.lst (R'.map V.str)) ∧ RInv parts parts[i].name R' ∧ (∀ x ∈ R, x ∈ R') ∧ (∀ x ∈ R.take j, ∀ y ∈ callsP parts x, y ∈ R') ∧ (Closed (callsP parts) R → ∀ x ∈ R', x ∈ R) ∧ H' cl = some (.lst (R.map V.str)))
            ⟨rl, R, _, rfl, s4.trans s5, s5 _ _ hrl, I, fun _ h => h, fun x hx => (by rw [List.take_zero] at hx; cases hx), fun _ _ h => h, hcl5⟩ (fun j σ H' _ x => by obtain ⟨_, _, _, _, _, _, _, _, _, _, x⟩ := x; exact SqL.of x) ?_ ?_
          · rintro j x σ H6 hx ⟨rl', R', y4, rfl, s6, hrl', I', hsub, hdone, hcl, hcl6⟩
            rw [List.getElem?_map] at hx
            cases ej : R[j]? with
            | none => rw [ej] at hx; cases hx
            | some o =>
              rw [ej] at hx
              cases hx
              have hoR := List.mem_of_getElem? ej
              obtain ⟨po, hpo, rfl⟩ := List.mem_map.mp (I.ins _ hoR)
              have hco := callsP_of ok.nd hpo
              refine ⟨_, rfl, _, rfl, _, rfl, pd, parts, ba, po, rfl, hR.keep s6, hpo, ok.n _ hpo, ok.nb _ hpo, fun l H7 s7 nl hl => ⟨l, rfl, ⟨_, SqL.of hl⟩, fun D nD => ?_⟩⟩
              have hrl7 := s7 _ _ hrl'
              have lcl := callsB_len po.body
              have lnb := ok.nb _ hpo
              refine lc_it (walk_list (K := K) (a := l) (xs := (callsB po.body).map V.str)) (fun i H' => H' D = some (.lst ((((callsB po.body).take i).filter fun y => decide (y ∉ R')).map V.str)) ∧ Same H7 H') ⟨by rw [List.take_zero]; exact upd_same, same_upd nD⟩ (fun i H' _ x => SqL.of (x.2 _ _ hl)) ?_ ?_
              · rintro i2 x H8 H8 hi2 ⟨hD, s8⟩ ⟨rfl, hx⟩
                rw [List.length_map] at hi2
                rw [List.getElem?_map, List.getElem?_eq_getElem hi2] at hx
                cases hx
                refine ⟨rfl, _, rfl, _, rfl, rl', _, rfl, .inl (SqL.of (s8 _ _ hrl7)), rfl, flat_strs R', _, rfl, ?_⟩
                rw [not_in]
                have etk : (callsB po.body).take (i2 + 1) = (callsB po.body).take i2 ++ [(callsB po.body)[i2]] := by rw [List.take_add_one, List.getElem?_eq_getElem hi2]; rfl
                rw [etk, List.filter_append]
                by_cases c : (callsB po.body)[i2] ∈ R'
                · refine iteDF (fun n => n c) ⟨?_, s8⟩
                  rw [hD]
                  simp [c]
                · refine iteDT c ⟨_, rfl, _, hD, ?_, ?_, same_off nD s8⟩
                  · rw [List.length_map]
                    have := List.length_filter_le (fun y => decide (y ∉ R')) ((callsB po.body).take i2)
                    rw [List.length_take] at this
                    exact sz6' (by omega)
                  · rw [upd_same, List.map_append]
                    simp [c]
              · rintro H8 ⟨hD, s8⟩
                rw [List.length_map, List.take_length] at hD
                have lR' := I'.len
                have lcn := cntR_le (namesP parts) R'
                rw [lnm] at lcn
                have lA := List.length_filter_le (fun y => decide (y ∉ R')) (callsB po.body)
                have l1 : 4000 * (1 + cntR (namesP parts) R') ≤ 4000 * 13 := Nat.mul_le_mul_left _ (by omega)
                refine ⟨rl', D, _, _, rfl, rfl, s8 _ _ hrl7, hD, sz6 (by rw [List.length_map, List.length_map]; omega), fun np nnp => ?_⟩
                have s9 := same_upd (o := .lst (R'.map V.str ++ ((callsB po.body).filter fun y => decide (y ∉ R')).map V.str)) nnp
                have memA : ∀ y, y ∈ (callsB po.body).filter (fun y => decide (y ∉ R')) ↔ y ∈ callsB po.body ∧ y ∉ R' := fun y => by rw [List.mem_filter, decide_eq_true_eq]
                refine ⟨np, R' ++ (callsB po.body).filter (fun y => decide (y ∉ R')), _, rfl, ((s6.trans s7).trans s8).trans s9, by rw [upd_same, List.map_append], ⟨fun y hy => List.mem_append_left _ (I'.sub y hy), fun x hx => ?_, fun x hx => ?_, ?_⟩, fun x hx => List.mem_append_left _ (hsub x hx), fun x hx y hy => ?_, fun hc x hx => ?_, (s7.trans (s8.trans s9)) _ _ hcl6⟩
                · rcases List.mem_append.mp hx with hx | hx
                  · exact I'.snd x hx
                  · exact (I.snd _ hoR).snoc (by rw [hco]; exact ((memA x).mp hx).1)
                · rcases List.mem_append.mp hx with hx | hx
                  · exact I'.ins x hx
                  · exact ok.hin _ hpo x ((memA x).mp hx).1
                · rw [List.length_append]
                  cases hA : (callsB po.body).filter (fun y => decide (y ∉ R')) with
                  | nil =>
                    rw [List.append_nil]
                    exact lR'
                  | cons y r =>
                    have hy := (memA y).mp (by rw [hA]; exact List.mem_cons_self ..)
                    have := cntR_lt (R' := R' ++ y :: r) ok.nd (fun x hx => List.mem_append_left _ hx) (ok.hin _ hpo y hy.1) (List.mem_append_right _ (List.mem_cons_self ..)) hy.2
                    rw [hA] at lA
                    have l2 : 4000 * (1 + (cntR (namesP parts) R' + 1)) ≤ 4000 * (1 + cntR (namesP parts) (R' ++ y :: r)) := Nat.mul_le_mul_left _ (by omega)
                    omega
                · rw [List.take_add_one, ej, show (some po.name).toList = [po.name] from rfl] at hx
                  rcases List.mem_append.mp hx with hx | hx
                  · exact List.mem_append_left _ (hdone x hx y hy)
                  · rw [List.mem_singleton.mp hx, hco] at hy
                    by_cases c : y ∈ R'
                    · exact List.mem_append_left _ c
                    · exact List.mem_append_right _ ((memA y).mpr ⟨hy, c⟩)
                · rcases List.mem_append.mp hx with hx | hx
                  · exact hcl hc x hx
                  · exact hc _ hoR x (by rw [hco]; exact ((memA x).mp hx).1)
          · rintro σ H6 ⟨rl', R', y4, rfl, s6, hrl', I', hsub, hdone, hcl, hcl6⟩
            rw [List.length_map, List.take_length] at hdone
            refine ⟨rl', R', _, _, rfl, s6, hrl', I', ?_⟩
            by_cases cc : Closed (callsP parts) R
            · exact .inl fun x hx y hy => hsub y (cc x (hcl cc x hx) y hy)
            · right
              have hc2 := hc.resolve_left cc
              have : ∃ x ∈ R, ∃ y ∈ callsP parts x, y ∉ R := Classical.byContradiction fun n => cc fun x hx y hy => Classical.byContradiction fun m => n ⟨x, hx, y, hy, m⟩
              obtain ⟨x, hx, y, hy, hn⟩ := this
              have hyR := hdone x hx y hy
              have := cntR_lt ok.nd hsub (I'.ins y hyR) hyR hn
              omega
        · rintro σ H4 ⟨rl, R, y3, y4, rfl, s4, hrl, I, hc⟩
          refine ⟨rl, R, _, _, rfl, s4, hrl, I, hc.resolve_right fun h => ?_⟩
          have := cntR_le (namesP parts) R
          rw [lnm] at this
          omega
      rintro σ H4 ⟨rl, R, y3, y4, rfl, s4, hrl, I, hc⟩
      refine ⟨_, rfl, _, rfl, rl, _, rfl, .inl (SqL.of hrl), rfl, flat_strs R, _, rfl, ?_⟩
      rw [show (if false = true then !inV (V.str parts[i].name) (R.map V.str) else inV (V.str parts[i].name) (R.map V.str)) = decide (parts[i].name ∈ R) from inV_str _ _]
      by_cases c : parts[i].name ∈ R
      · refine iteDT c ⟨s4 _ _ hf, k true ?_ _ (unl s4)⟩
        rw [circ_iff ok.nd]
        exact ⟨fun _ => ⟨_, hpn, I.snd _ c⟩, fun _ => rfl⟩
      · refine iteDF c ⟨_, _, _, _, rfl, s4, fun n hn => ?_⟩
        rw [List.take_add_one, en, show (some parts[i].name).toList = [parts[i].name] from rfl] at hn
        rcases List.mem_append.mp hn with hn | hn
        · exact hno n hn
        · rw [List.mem_singleton.mp hn]
          exact fun h => c (closed_pth hc h I.sub)
    · rintro σ H2 ⟨y1, y2, y3, y4, rfl, s2, hno⟩
      rw [kf_len, List.take_length] at hno
      refine ⟨s2 _ _ hf, k false ?_ _ (unl s2)⟩
      rw [circ_iff ok.nd]
      exact ⟨fun h => (by cases h), fun ⟨a, h1, h2⟩ => absurd h2 (hno a h1)⟩
end
end OS

namespace OS
open PySem PySem.Spec PyProof.Rows L2
/-! ### the law's own: measures -/
/-- measured within so many levels -/
def Hg (parts : List Prt) : Nat → List Stm → Prop
  | 0, _ => False
  | n + 1, b => ∀ s ∈ b, match s with
    | .call q _ => ∃ p ∈ parts, p.name = q ∧ Hg parts n p.body
    | .ite _ _ y z => Hg parts n y ∧ Hg parts n z
    | .whl _ _ x => Hg parts n x
    | _ => True
theorem Hg.up {parts : List Prt} : ∀ {n : Nat} {b : List Stm}, Hg parts n b → Hg parts (n + 1) b
  | 0, b, h => by unfold Hg at h; exact h.elim
  | n + 1, b, h => by
    unfold Hg at h ⊢
    intro s hs
    have := h s hs
    cases s with
    | call q es =>
      obtain ⟨p, hp, e, h1⟩ := this
      exact ⟨p, hp, e, h1.up⟩
    | ite e v y z => exact ⟨Hg.up this.1, Hg.up this.2⟩
    | whl e v x => exact Hg.up this
    | _ => trivial
theorem Hg.le {parts : List Prt} {n m : Nat} {b : List Stm} (h : Hg parts n b) (e : n ≤ m) : Hg parts m b := by
  induction e with
  | refl => exact h
  | step _ ih => exact ih.up
theorem cBs_mem : ∀ {b : List Stm} {s : Stm}, s ∈ b → ∀ q ∈ cSs s, q ∈ cBs b
  | [], s, h, q, _ => by cases h
  | x :: r, s, h, q, hq => by
    simp only [cBs]
    rcases List.mem_cons.mp h with rfl | h
    · exact List.mem_append_left _ hq
    · exact List.mem_append_right _ (cBs_mem h q hq)
theorem hg_nest {parts : List Prt} {k : Nat} : ∀ (j : Nat) (b : List Stm), blkNst b ≤ j → (∀ q ∈ cBs b, ∃ p ∈ parts, p.name = q ∧ Hg parts k p.body) → Hg parts (k + j + 1) b := by
  intro j
  induction j with
  | zero =>
    intro b hb hc
    unfold Hg
    intro s hs
    have hn := nst_mem hs
    cases s with
    | call q es => exact hc q (cBs_mem hs q (by simp [cSs]))
    | ite e v y z =>
      have : max (blkNst y) (blkNst z) + 1 ≤ blkNst b := hn
      omega
    | whl e v x =>
      have : blkNst x + 1 ≤ blkNst b := hn
      omega
    | _ => trivial
  | succ j ih =>
    intro b hb hc
    unfold Hg
    intro s hs
    have hn := nst_mem hs
    cases s with
    | call q es =>
      obtain ⟨p, hp, e, h⟩ := hc q (cBs_mem hs q (by simp [cSs]))
      exact ⟨p, hp, e, h.le (by omega)⟩
    | ite e v y z =>
      have : max (blkNst y) (blkNst z) + 1 ≤ blkNst b := hn
      exact ⟨ih y (by omega) fun q hq => hc q (cBs_mem hs q (by simp only [cSs]; exact List.mem_append_left _ hq)), ih z (by omega) fun q hq => hc q (cBs_mem hs q (by simp only [cSs]; exact List.mem_append_right _ hq))⟩
    | whl e v x =>
      have : blkNst x + 1 ≤ blkNst b := hn
      exact ih x (by omega) fun q hq => hc q (cBs_mem hs q (by simp only [cSs]; exact hq))
    | _ => trivial
open Classical in
theorem hg_part {parts : List Prt} (nd : (namesP parts).Nodup) (nc : ¬ Kn.Circ (namesP parts) (callersP parts)) (hin : ∀ p ∈ parts, ∀ q ∈ callsB p.body, q ∈ namesP parts) (hn : ∀ p ∈ parts, blkNst p.body ≤ 1) :
    ∀ (k : Nat) (p : Prt), p ∈ parts → rkP parts p.name ≤ k → Hg parts (2 * k) p.body := by
  intro k
  induction k with
  | zero =>
    intro p hp hk
    have : 0 < rkP parts p.name := by
      unfold rkP
      exact List.length_pos_of_mem (List.mem_filter.mpr ⟨List.mem_map.mpr ⟨p, hp, rfl⟩, decide_eq_true (.inl rfl)⟩)
    omega
  | succ k ih =>
    intro p hp hk
    have := hg_nest (parts := parts) (k := 2 * k) 1 p.body (hn p hp) fun q hq => by
      rw [← callsB_eq] at hq
      have h1 := rk_lt nd nc hp hq
      obtain ⟨p2, hp2, rfl⟩ := List.mem_map.mp (hin p hp q hq)
      exact ⟨p2, hp2, rfl, ih p2 hp2 (by omega)⟩
    exact this.le (by omega)
theorem manyB_app (f : Str → Nat × Nat) : ∀ a b : List Stm, manyB f (a ++ b) = manyB f a + manyB f b
  | [], b => by simp [manyB]
  | s :: r, b => by simp only [List.cons_append, manyB, manyB_app f r b]; omega
theorem deepB_app (f : Str → Nat × Nat) : ∀ a b : List Stm, deepB f (a ++ b) = max (deepB f a) (deepB f b)
  | [], b => by simp [deepB]
  | s :: r, b => by simp only [List.cons_append, deepB, deepB_app f r b]; omega
def whlN (s : Stm) : Nat := if isWhl s = true then 1 else 0
theorem many_in (f : Str → Nat × Nat) (s : Stm) (h : isCall s = false) : manyS f s = 1 + ((innerB s).map (manyB f)).sum := by
  cases s with
  | call q es => cases h
  | _ => simp [manyS, innerB]
theorem deep_in (f : Str → Nat × Nat) (s : Stm) (h : isCall s = false) (d : Nat) : max d (deepS f s) = (innerB s).foldl (fun d x => max d (deepB f x + whlN s)) d := by
  cases s with
  | call q es => cases h
  | ite e v y n =>
    simp only [deepS, innerB, List.foldl_cons, List.foldl_nil, whlN, isWhl]
    simp
  | whl e v b => simp [deepS, innerB, whlN, isWhl]
  | _ => simp [deepS, innerB]
section
variable {P : Program} {w : World} {K : PySem.W.Frag} {mg : Str → Option Value} {base : Heap}
def spMeas (K : PySem.W.Frag) (n : Nat) : Sp := fun vs H Q _ => ∃ (v : V) (pd : Addr) (b : List Stm) (parts : List Prt) (ba : Str → Addr), vs = [v, .ref pd] ∧ At K H (blkDt b) v ∧ PdAt K H pd parts ba ∧ (namesP parts).Nodup ∧ AllSiz parts ∧ (∀ p ∈ parts, ∀ q ∈ callsB p.body, q ∈ namesP parts) ∧ Hg parts n b ∧
  ∀ p H', Same H H' → H' p = some (.tup [.int (manyB (szOf parts) b : Nat), .int (deepB (szOf parts) b : Nat)]) → Q (.ref p) H'
theorem meas_none {f : Addr} {fd : FuncData} {ps : List Str} : FnOk P w K mg base CX0 (1 + 0) f fd ps (spMeas K 0) := by
  have no : ∀ vs H Q E, ¬ spMeas K 0 vs H Q E := fun vs H Q E h => by
    obtain ⟨_, _, _, _, _, _, _, _, _, _, _, h, _⟩ := h
    unfold Hg at h
    exact h
  exact ⟨fun vs H Q E h => absurd h (no vs H Q E), fun A outer s H args us vs Q E _ _ _ _ h => absurd h (no vs H Q E)⟩
theorem szOf_meas {parts : List Prt} (nd : (namesP parts).Nodup) (al : AllSiz parts) (hin : ∀ p ∈ parts, ∀ q ∈ callsB p.body, q ∈ namesP parts) {p : Prt} (hp : p ∈ parts) : szOf parts p.name = (manyB (szOf parts) p.body, deepB (szOf parts) p.body) := by
  have h2 : Siz parts p.name (measB (szOf parts) p.body) := .mk hp fun q hq => by
    obtain ⟨p2, hp2, rfl⟩ := List.mem_map.mp (hin p hp q hq)
    exact al p2 hp2
  rw [Siz.det nd (al p hp) h2, meas_eq]
theorem ok_law_measure {f : Addr} {fd : FuncData} (F : Fun K "_law_measure" "_law_measure" s__law_measure f fd) (T : Txt K mg) (n : Nat) {f__law_measure : Addr} {d__law_measure : FuncData} (c__law_measure : Cal P w K mg base (1+n) "_law_measure" ["block", "parts"] (spMeas K n) f__law_measure d__law_measure) : FnOk P w K mg base CX0 (1+n+1) f fd ["block", "parts"] (spMeas K (n+1)) := by
  refine F.ok sc__law_measure (fun vs H Q E h => ?_) (fun cdv A outer s H vs Q E hr h => ?_)
  · obtain ⟨v, pd, b, parts, ba, rfl, _⟩ := h
    rfl
  · obtain ⟨v, pd, b, parts, ba, rfl, hat, hpd, nd, al, hin, hg, k⟩ := h
    have hu := hu_of hr
    unfold blkDt At at hat
    obtain ⟨bp, bs, rfl, hb, hA⟩ := hat
    rw [blkDts_map] at hA
    have lb := hA.length
    rw [List.length_map] at lb
    unfold Hg at hg
    obtain ⟨f, hf⟩ : ∃ f, f = szOf parts := ⟨_, rfl⟩
    rw [← hf] at k
    refine ⟨_, (pss_cons (ps_set (i := 2) sc__law_measure.nd rfl (.inl rfl) pe_int)
      (pss_cons (ps_set (i := 3) sc__law_measure.nd rfl (.inl rfl) pe_int)
      (pss_cons (ps_for PassesOwn.never rfl (pi_tup (pv 0)) (pg_name (i := 4) sc__law_measure.nd rfl (.inl rfl)) (pss_cons (ps_if (pt_cmpR op_eq (pe_ix ix_tup (pv 4) pe_int (fun _ _ => rfl)) pe_str (nomark _)) (pss_cons (ps_asg (pe_call c__law_measure.G (hr.mono (by omega)) (by rfl) c__law_measure.m c__law_measure.k c__law_measure.b .nil pass0 (pa_cons (pe_ix ix_tup (pe_dget hu (pv 1) (pe_ix ix_tup (pv 4) pe_int (fun _ _ => rfl)) (fun _ _ => rfl)) pe_int (fun _ _ => rfl)) (pa_cons (pv 1) pa_nil))) (pg_tup (by rfl) (pgs_cons (pg_name (i := 5) sc__law_measure.nd rfl (.inl rfl)) (pgs_cons (pg_name (i := 6) sc__law_measure.nd rfl (.inl rfl)) pgs_nil))))
      (pss_cons (ps_set (i := 2) sc__law_measure.nd rfl (.inl rfl) (pe_op op_add (pv 2) (pv 5)))
      (pss_cons (ps_set (i := 3) sc__law_measure.nd rfl (.inl rfl) (pe_callB (call_max2 (by rfl)) (by rfl) T.max (by decide +kernel) (pa_cons (pv 3) (pa_cons (pv 6) pa_nil))))
      (pss_one ps_continue)))) pss_nil)
      (pss_cons (ps_set (i := 2) sc__law_measure.nd rfl (.inl rfl) (pe_op op_add (pv 2) pe_int))
      (pss_one (ps_for PassesOwn.never rfl (pi_tup (pe_ifExp (pt_cmpR op_in_seq (pe_ix ix_tup (pv 4) pe_int (fun _ _ => rfl)) (pe_lst (pa_cons pe_str (pa_cons pe_str pa_nil))) (by rfl)) (pe_slice sl_tupA (pv 4) (po_some pe_int) po_none) (pe_tup pa_nil))) (pg_name (i := 7) sc__law_measure.nd rfl (.inl rfl)) (pss_cons (ps_asg (pe_call c__law_measure.G (hr.mono (by omega)) (by rfl) c__law_measure.m c__law_measure.k c__law_measure.b .nil pass0 (pa_cons (pv 7) (pa_cons (pv 1) pa_nil))) (pg_tup (by rfl) (pgs_cons (pg_name (i := 5) sc__law_measure.nd rfl (.inl rfl)) (pgs_cons (pg_name (i := 6) sc__law_measure.nd rfl (.inl rfl)) pgs_nil))))
      (pss_cons (ps_set (i := 2) sc__law_measure.nd rfl (.inl rfl) (pe_op op_add (pv 2) (pv 5)))
      (pss_one (ps_set (i := 3) sc__law_measure.nd rfl (.inl rfl) (pe_callB (call_max2 (by rfl)) (by rfl) T.max (by decide +kernel) (pa_cons (pv 3) (pa_cons (pe_op op_add (pv 6) (pe_ifExp (pt_cmpR op_eq (pe_ix ix_tup (pv 4) pe_int (fun _ _ => rfl)) pe_str (nomark _)) pe_int pe_int)) pa_nil))))))))))))
      (pss_one (ps_ret (pe_tup (pa_cons (pv 2) (pa_cons (pv 3) pa_nil)))))))), ?_⟩
    refine ⟨_, rfl, bp, rfl, ⟨_, SqT.of hb⟩, ?_⟩
    refine for_tup (K := K) (a := bp) (xs := bs) (fun i σ H' => ∃ y4 y5 y6 y7, σ = [some (.ref bp), some (.ref pd), some (.int (manyB f (b.take i) : Nat)), some (.int (deepB f (b.take i) : Nat)), y4, y5, y6, y7] ∧ Same H H') ⟨_, _, _, _, by rw [List.take_zero]; rfl, fun _ _ e => e⟩ (fun i σ H' _ x => by obtain ⟨_, _, _, _, _, s⟩ := x; exact SqT.of (s _ _ hb)) ?_ ?_
    · rintro i x σ H1 hx ⟨y4, y5, y6, y7, rfl, s1⟩
      have hi : i < b.length := by
        have := (List.getElem?_eq_some_iff.mp hx).1
        omega
      obtain ⟨v2, e1, e2⟩ := hA.get (i := i) (d := b[i].dt) (by rw [List.getElem?_map, List.getElem?_eq_getElem hi]; rfl)
      rw [hx] at e1
      cases e1
      have hgs := hg _ (List.getElem_mem hi)
      have etk : b.take (i + 1) = b.take i ++ [b[i]] := by rw [List.take_add_one, List.getElem?_eq_getElem hi]; rfl
      rw [etk, manyB_app, deepB_app]
      generalize manyB f (b.take i) = S0
      generalize deepB f (b.take i) = D0
      have e2 := At.keep s1 e2
      generalize b[i] = st at e2 hgs ⊢
      simp only [manyB, deepB, Nat.add_zero, Nat.max_zero]
      obtain ⟨q, r, rfl, hq⟩ := stm_kind e2
      refine ⟨_, rfl, q, _, _, _, rfl, rfl, SqT.of hq, atI_nat (j := 0) rfl, rfl, _, rfl, ?_⟩
      by_cases hc : isCall st = true
      · cases st with
        | call cn es =>
          obtain ⟨p, hp, rfl, hgp⟩ := hgs
          obtain ⟨q2, eb, e3, hq2, heb⟩ := call_at e2
          cases e3
          have hpd1 := hpd.keep s1
          obtain ⟨pa, bv, hba, hpa, hbv⟩ := hpd1.2 p hp
          have dg : DGet H1 pd (.str p.name) (some (.ref (ba p.name))) := by
            have := DGet.k (k := Sum.inr p.name) hpd1.1
            rw [kf_in (n := p.name) (ns := namesP parts) (List.mem_map.mpr ⟨p, hp, rfl⟩)] at this
            exact this
          have esz := szOf_meas nd al hin hp
          rw [← hf] at esz
          refine iteDT rfl ⟨_, rfl, _, rfl, q, _, _, _, rfl, rfl, SqT.of hq2, atI_nat (j := 1) rfl, pd, _, rfl, dg, ba p.name, _, _, _, rfl, rfl, SqT.of hba, atI_nat (j := 1) rfl, _, rfl, bv, pd, p.body, parts, ba, rfl, hbv, hpd1, nd, al, hin, hgp, fun tp H2 s2 htp => ?_⟩
          rw [← hf] at htp
          refine ⟨tp, _, rfl, SqT.of htp, rfl, _, _, rfl, _, _, rfl, rfl, ?_⟩
          refine ⟨_, rfl, _, rfl, _, _, rfl, rfl, _, rfl, _, rfl, _, _, rfl, ?_⟩
          rw [max_nat]
          refine ⟨some (.ref q), some (.int (manyB f p.body : Nat)), some (.int (deepB f p.body : Nat)), y7, ?_, s1.trans s2⟩
          simp only [manyS, deepS, esz]
          rfl
        | _ => cases hc
      · have hc : isCall st = false := by simpa using hc
        have nk : ¬ V.str (kindS st) = V.str "call" := by
          cases hjs : st with
          | call q es => rw [hjs] at hc; cases hc
          | _ => exact fun e => absurd (V.str.inj e) (by simp only [kindS]; decide +kernel)
        refine iteDF nk ⟨_, rfl, _, _, rfl, rfl, ?_⟩
        have many_eq : S0 + manyS f st = S0 + 1 + ((innerB st).map (manyB f)).sum := by rw [many_in f st hc]; omega
        have deep_eq : max D0 (deepS f st) = (innerB st).foldl (fun d x => max d (deepB f x + whlN st)) D0 := deep_in f st hc D0
        have hgin : ∀ x ∈ innerB st, Hg parts n x := fun x hx => by
          cases st with
          | ite e v y z => simp only [innerB, List.mem_cons, List.not_mem_nil, or_false] at hx; rcases hx with rfl | rfl; exact hgs.1; exact hgs.2
          | whl e v y => simp only [innerB, List.mem_cons, List.not_mem_nil, or_false] at hx; rw [hx]; exact hgs
          | _ => simp only [innerB] at hx; cases hx
        refine ⟨_, rfl, q, _, _, _, rfl, rfl, SqT.of hq, atI_nat (j := 0) rfl, by show 2 ≤ sizeLine; decide, fun wl nwl => ⟨wl, _, rfl, .inl (SqL.of upd_same), rfl, rfl, _, rfl, ?_⟩⟩
        have sw := same_upd (o := .lst [.str "if", .str "while"]) nwl
        have e1 : (if false = true then !inV (V.str (kindS st)) [V.str "if", V.str "while"] else inV (V.str (kindS st)) [V.str "if", V.str "while"]) = decide (kindS st ∈ (["if", "while"] : List Str)) := inV_str _ ["if", "while"]
        rw [e1]
        cases hst : st with
        | ite e vv y z =>
          rw [← hst]
          have e3 := At.keep sw e2
          rw [hst] at e3
          unfold Stm.dt At at e3
          obtain ⟨q3, vs3, e4, hq3, hl3⟩ := e3
          cases e4
          simp only [AtL] at hl3
          obtain ⟨v0, _, rfl, h0, v1, _, rfl, h1, v2, _, rfl, h2, v3, _, rfl, h3, v4, _, rfl, h4, rfl⟩ := hl3
          refine iteDT (by rw [hst]; simp only [kindS]; decide +kernel) ⟨_, rfl, _, rfl, q, _, rfl, SqT.of hq3, fun w => absurd w.1 (by show ¬ HT.sIx 5 0 (some 3) = 0; decide), fun _ xp nxp => ⟨xp, rfl, ⟨_, SqT.of upd_same⟩, ?_⟩⟩
          have s2 := sw.trans (same_upd (o := .tup (cutV [v0, v1, v2, v3, v4] (some 3) none)) nxp)
          have hxp : upd (upd H1 wl (.lst [.str "if", .str "while"])) xp (.tup (cutV [v0, v1, v2, v3, v4] (some 3) none)) xp = some (.tup [v3, v4]) := upd_same
          have hxs : AtL K (upd (upd H1 wl (.lst [.str "if", .str "while"])) xp (.tup (cutV [v0, v1, v2, v3, v4] (some 3) none))) ((innerB st).map blkDt) [v3, v4] := by
            rw [hst]
            simp only [innerB, List.map_cons, List.map_nil, AtL]
            exact ⟨_, _, rfl, At.keep (same_upd nxp) h3, _, _, rfl, At.keep (same_upd nxp) h4, rfl⟩
          generalize upd (upd H1 wl (.lst [.str "if", .str "while"])) xp (.tup (cutV [v0, v1, v2, v3, v4] (some 3) none)) = H2 at s2 hxp hxs ⊢
          obtain ⟨xs, hxsE⟩ : ∃ xs, xs = [v3, v4] := ⟨_, rfl⟩
          rw [← hxsE] at hxp hxs
          refine for_tup (K := K) (a := xp) (xs := xs) (fun j σ H' => ∃ y5 y6 y7, σ = [some (.ref bp), some (.ref pd), some (.int ((S0 + 1 + (((innerB st).take j).map (manyB f)).sum : Nat) : Int)), some (.int ((((innerB st).take j).foldl (fun d x => max d (deepB f x + whlN st)) D0 : Nat) : Int)), some (.ref q), y5, y6, y7] ∧ Same H2 H') ⟨_, _, _, by rw [List.take_zero]; rfl, fun _ _ e => e⟩ (fun j σ H' _ x => by obtain ⟨_, _, _, _, s⟩ := x; exact SqT.of (s _ _ hxp)) ?_ ?_
          · rintro j x σ H3 hx ⟨y5, y6, y7, rfl, s3⟩
            have hj : j < (innerB st).length := by
              have := (List.getElem?_eq_some_iff.mp hx).1
              have := hxs.length
              rw [List.length_map] at this
              omega
            obtain ⟨v3, e1, e3⟩ := hxs.get (i := j) (d := blkDt (innerB st)[j]) (by rw [List.getElem?_map, List.getElem?_eq_getElem hj]; rfl)
            rw [hx] at e1
            cases e1
            have hgj := hgin _ (List.getElem_mem hj)
            have s13 := (s1.trans s2).trans s3
            have etj : (innerB st).take (j + 1) = (innerB st).take j ++ [(innerB st)[j]] := by rw [List.take_add_one, List.getElem?_eq_getElem hj]; rfl
            rw [etj]
            generalize (innerB st)[j] = B at e3 hgj ⊢
            generalize hS1 : (((innerB st).take j).map (manyB f)).sum = S1
            generalize hD1 : ((innerB st).take j).foldl (fun d x => max d (deepB f x + whlN st)) D0 = D1
            refine ⟨_, rfl, _, rfl, x, pd, B, parts, ba, rfl, At.keep s3 e3, hpd.keep s13, nd, al, hin, hgj, fun tp H4 s4 htp => ?_⟩
            rw [← hf] at htp
            refine ⟨tp, _, rfl, SqT.of htp, rfl, _, _, rfl, _, _, rfl, rfl, ?_⟩
            have hq4 := (s2.trans (s3.trans s4)) _ _ hq
            refine ⟨_, rfl, _, rfl, _, _, rfl, rfl, _, rfl, _, rfl, ?_⟩
            refine ⟨_, rfl, q, _, _, _, rfl, rfl, SqT.of hq4, atI_nat (j := 0) rfl, rfl, _, rfl, ?_⟩
            have fin : ∀ wn : Nat, wn = whlN st → ∃ y5 y6 y7, ((((([some (V.ref bp), some (V.ref pd), some (V.int ((S0 + 1 + S1 : Nat) : Int)), some (V.int (D1 : Nat)), some (V.ref q), some (V.int (manyB f B : Nat)), some (V.int (deepB f B : Nat)), some x] : List (Option V)).set 2 (some (V.int (((S0 + 1 + S1 : Nat) : Int) + ((manyB f B : Nat) : Int))))).set 3 (some (V.int (if (((deepB f B : Nat) : Int) + ((wn : Nat) : Int)) > ((D1 : Nat) : Int) then (((deepB f B : Nat) : Int) + ((wn : Nat) : Int)) else ((D1 : Nat) : Int)))))) = [some (.ref bp), some (.ref pd), some (.int ((S0 + 1 + (((innerB st).take j ++ [B]).map (manyB f)).sum : Nat) : Int)), some (.int ((((innerB st).take j ++ [B]).foldl (fun d x => max d (deepB f x + whlN st)) D0 : Nat) : Int)), some (.ref q), y5, y6, y7]) ∧ Same H2 H4 := fun wn ew => by
              refine ⟨some (V.int (manyB f B : Nat)), some (V.int (deepB f B : Nat)), some x, ?_, s3.trans s4⟩
              rw [List.map_append, List.sum_append, List.foldl_append, hD1, hS1]
              have e4 := max_nat D1 (deepB f B + wn)
              have e5 : (((deepB f B + wn : Nat)) : Int) = ((deepB f B : Nat) : Int) + ((wn : Nat) : Int) := by omega
              rw [e5] at e4
              rw [e4, ew]
              simp only [List.map_cons, List.map_nil, List.sum_cons, List.sum_nil, Nat.add_zero, List.foldl_cons, List.foldl_nil]
              have e6 : (((S0 + 1 + S1 : Nat) : Int)) + ((manyB f B : Nat) : Int) = ((S0 + 1 + (S1 + manyB f B) : Nat) : Int) := by omega
              show [some (V.ref bp), some (V.ref pd), some (V.int ((((S0 + 1 + S1 : Nat) : Int)) + ((manyB f B : Nat) : Int))), some (V.int ((max D1 (deepB f B + whlN st) : Nat) : Int)), some (V.ref q), some (V.int (manyB f B : Nat)), some (V.int (deepB f B : Nat)), some x] = _
              rw [e6]
            exact iteDF (fun e => absurd (V.str.inj e) (by rw [hst]; simp only [kindS]; decide +kernel)) ⟨_, _, rfl, rfl, _, _, rfl, fin 0 (by rw [hst]; rfl)⟩
          · rintro σ H3 ⟨y5, y6, y7, rfl, s3⟩
            have lxs := hxs.length
            rw [List.length_map] at lxs
            rw [lxs, List.take_length, ← many_eq, ← deep_eq]
            exact ⟨some (.ref q), y5, y6, y7, rfl, (s1.trans s2).trans s3⟩
        | whl e vv y =>
          rw [← hst]
          have e3 := At.keep sw e2
          rw [hst] at e3
          unfold Stm.dt At at e3
          obtain ⟨q3, vs3, e4, hq3, hl3⟩ := e3
          cases e4
          simp only [AtL] at hl3
          obtain ⟨v0, _, rfl, h0, v1, _, rfl, h1, v2, _, rfl, h2, v3, _, rfl, h3, rfl⟩ := hl3
          refine iteDT (by rw [hst]; simp only [kindS]; decide +kernel) ⟨_, rfl, _, rfl, q, _, rfl, SqT.of hq3, fun w => absurd w.1 (by show ¬ HT.sIx 4 0 (some 3) = 0; decide), fun _ xp nxp => ⟨xp, rfl, ⟨_, SqT.of upd_same⟩, ?_⟩⟩
          have s2 := sw.trans (same_upd (o := .tup (cutV [v0, v1, v2, v3] (some 3) none)) nxp)
          have hxp : upd (upd H1 wl (.lst [.str "if", .str "while"])) xp (.tup (cutV [v0, v1, v2, v3] (some 3) none)) xp = some (.tup [v3]) := upd_same
          have hxs : AtL K (upd (upd H1 wl (.lst [.str "if", .str "while"])) xp (.tup (cutV [v0, v1, v2, v3] (some 3) none))) ((innerB st).map blkDt) [v3] := by
            rw [hst]
            simp only [innerB, List.map_cons, List.map_nil, AtL]
            exact ⟨_, _, rfl, At.keep (same_upd nxp) h3, rfl⟩
          generalize upd (upd H1 wl (.lst [.str "if", .str "while"])) xp (.tup (cutV [v0, v1, v2, v3] (some 3) none)) = H2 at s2 hxp hxs ⊢
          obtain ⟨xs, hxsE⟩ : ∃ xs, xs = [v3] := ⟨_, rfl⟩
          rw [← hxsE] at hxp hxs
          refine for_tup (K := K) (a := xp) (xs := xs) (fun j σ H' => ∃ y5 y6 y7, σ = [some (.ref bp), some (.ref pd), some (.int ((S0 + 1 + (((innerB st).take j).map (manyB f)).sum : Nat) : Int)), some (.int ((((innerB st).take j).foldl (fun d x => max d (deepB f x + whlN st)) D0 : Nat) : Int)), some (.ref q), y5, y6, y7] ∧ Same H2 H') ⟨_, _, _, by rw [List.take_zero]; rfl, fun _ _ e => e⟩ (fun j σ H' _ x => by obtain ⟨_, _, _, _, s⟩ := x; exact SqT.of (s _ _ hxp)) ?_ ?_
          · rintro j x σ H3 hx ⟨y5, y6, y7, rfl, s3⟩
            have hj : j < (innerB st).length := by
              have := (List.getElem?_eq_some_iff.mp hx).1
              have := hxs.length
              rw [List.length_map] at this
              omega
            obtain ⟨v3, e1, e3⟩ := hxs.get (i := j) (d := blkDt (innerB st)[j]) (by rw [List.getElem?_map, List.getElem?_eq_getElem hj]; rfl)
            rw [hx] at e1
            cases e1
            have hgj := hgin _ (List.getElem_mem hj)
            have s13 := (s1.trans s2).trans s3
            have etj : (innerB st).take (j + 1) = (innerB st).take j ++ [(innerB st)[j]] := by rw [List.take_add_one, List.getElem?_eq_getElem hj]; rfl
            rw [etj]
            generalize (innerB st)[j] = B at e3 hgj ⊢
            generalize hS1 : (((innerB st).take j).map (manyB f)).sum = S1
            generalize hD1 : ((innerB st).take j).foldl (fun d x => max d (deepB f x + whlN st)) D0 = D1
            refine ⟨_, rfl, _, rfl, x, pd, B, parts, ba, rfl, At.keep s3 e3, hpd.keep s13, nd, al, hin, hgj, fun tp H4 s4 htp => ?_⟩
            rw [← hf] at htp
            refine ⟨tp, _, rfl, SqT.of htp, rfl, _, _, rfl, _, _, rfl, rfl, ?_⟩
            have hq4 := (s2.trans (s3.trans s4)) _ _ hq
            refine ⟨_, rfl, _, rfl, _, _, rfl, rfl, _, rfl, _, rfl, ?_⟩
            refine ⟨_, rfl, q, _, _, _, rfl, rfl, SqT.of hq4, atI_nat (j := 0) rfl, rfl, _, rfl, ?_⟩
            have fin : ∀ wn : Nat, wn = whlN st → ∃ y5 y6 y7, ((((([some (V.ref bp), some (V.ref pd), some (V.int ((S0 + 1 + S1 : Nat) : Int)), some (V.int (D1 : Nat)), some (V.ref q), some (V.int (manyB f B : Nat)), some (V.int (deepB f B : Nat)), some x] : List (Option V)).set 2 (some (V.int (((S0 + 1 + S1 : Nat) : Int) + ((manyB f B : Nat) : Int))))).set 3 (some (V.int (if (((deepB f B : Nat) : Int) + ((wn : Nat) : Int)) > ((D1 : Nat) : Int) then (((deepB f B : Nat) : Int) + ((wn : Nat) : Int)) else ((D1 : Nat) : Int)))))) = [some (.ref bp), some (.ref pd), some (.int ((S0 + 1 + (((innerB st).take j ++ [B]).map (manyB f)).sum : Nat) : Int)), some (.int ((((innerB st).take j ++ [B]).foldl (fun d x => max d (deepB f x + whlN st)) D0 : Nat) : Int)), some (.ref q), y5, y6, y7]) ∧ Same H2 H4 := fun wn ew => by
              refine ⟨some (V.int (manyB f B : Nat)), some (V.int (deepB f B : Nat)), some x, ?_, s3.trans s4⟩
              rw [List.map_append, List.sum_append, List.foldl_append, hD1, hS1]
              have e4 := max_nat D1 (deepB f B + wn)
              have e5 : (((deepB f B + wn : Nat)) : Int) = ((deepB f B : Nat) : Int) + ((wn : Nat) : Int) := by omega
              rw [e5] at e4
              rw [e4, ew]
              simp only [List.map_cons, List.map_nil, List.sum_cons, List.sum_nil, Nat.add_zero, List.foldl_cons, List.foldl_nil]
              have e6 : (((S0 + 1 + S1 : Nat) : Int)) + ((manyB f B : Nat) : Int) = ((S0 + 1 + (S1 + manyB f B) : Nat) : Int) := by omega
              show [some (V.ref bp), some (V.ref pd), some (V.int ((((S0 + 1 + S1 : Nat) : Int)) + ((manyB f B : Nat) : Int))), some (V.int ((max D1 (deepB f B + whlN st) : Nat) : Int)), some (V.ref q), some (V.int (manyB f B : Nat)), some (V.int (deepB f B : Nat)), some x] = _
              rw [e6]
            exact iteDT (by rw [hst]; rfl) ⟨_, _, rfl, rfl, _, _, rfl, fin 1 (by rw [hst]; rfl)⟩
          · rintro σ H3 ⟨y5, y6, y7, rfl, s3⟩
            have lxs := hxs.length
            rw [List.length_map] at lxs
            rw [lxs, List.take_length, ← many_eq, ← deep_eq]
            exact ⟨some (.ref q), y5, y6, y7, rfl, (s1.trans s2).trans s3⟩
        | call q es => rw [hst] at hc; cases hc
        | _ =>
          rw [← hst]
          refine iteDF (by rw [hst]; simp only [kindS]; decide +kernel) ⟨Nat.zero_le _, fun xp nxp => ⟨xp, rfl, ⟨_, SqT.of upd_same⟩, ?_⟩⟩
          have s2 := sw.trans (same_upd (o := .tup []) nxp)
          have hxp : upd (upd H1 wl (.lst [.str "if", .str "while"])) xp (.tup []) xp = some (.tup []) := upd_same
          have hxs : AtL K (upd (upd H1 wl (.lst [.str "if", .str "while"])) xp (.tup [])) ((innerB st).map blkDt) [] := by
            rw [hst]
            simp only [innerB, List.map_nil, AtL]
          generalize upd (upd H1 wl (.lst [.str "if", .str "while"])) xp (.tup []) = H2 at s2 hxp hxs ⊢
          obtain ⟨xs, hxsE⟩ : ∃ xs : List V, xs = [] := ⟨_, rfl⟩
          rw [← hxsE] at hxp hxs
          refine for_tup (K := K) (a := xp) (xs := xs) (fun j σ H' => ∃ y5 y6 y7, σ = [some (.ref bp), some (.ref pd), some (.int ((S0 + 1 + (((innerB st).take j).map (manyB f)).sum : Nat) : Int)), some (.int ((((innerB st).take j).foldl (fun d x => max d (deepB f x + whlN st)) D0 : Nat) : Int)), some (.ref q), y5, y6, y7] ∧ Same H2 H') ⟨_, _, _, by rw [List.take_zero]; rfl, fun _ _ e => e⟩ (fun j σ H' _ x => by obtain ⟨_, _, _, _, s⟩ := x; exact SqT.of (s _ _ hxp)) ?_ ?_
          · rintro j x σ H3 hx ⟨y5, y6, y7, rfl, s3⟩
            have hj : j < (innerB st).length := by
              have := (List.getElem?_eq_some_iff.mp hx).1
              have := hxs.length
              rw [List.length_map] at this
              omega
            obtain ⟨v3, e1, e3⟩ := hxs.get (i := j) (d := blkDt (innerB st)[j]) (by rw [List.getElem?_map, List.getElem?_eq_getElem hj]; rfl)
            rw [hx] at e1
            cases e1
            have hgj := hgin _ (List.getElem_mem hj)
            have s13 := (s1.trans s2).trans s3
            have etj : (innerB st).take (j + 1) = (innerB st).take j ++ [(innerB st)[j]] := by rw [List.take_add_one, List.getElem?_eq_getElem hj]; rfl
            rw [etj]
            generalize (innerB st)[j] = B at e3 hgj ⊢
            generalize hS1 : (((innerB st).take j).map (manyB f)).sum = S1
            generalize hD1 : ((innerB st).take j).foldl (fun d x => max d (deepB f x + whlN st)) D0 = D1
            refine ⟨_, rfl, _, rfl, x, pd, B, parts, ba, rfl, At.keep s3 e3, hpd.keep s13, nd, al, hin, hgj, fun tp H4 s4 htp => ?_⟩
            rw [← hf] at htp
            refine ⟨tp, _, rfl, SqT.of htp, rfl, _, _, rfl, _, _, rfl, rfl, ?_⟩
            have hq4 := (s2.trans (s3.trans s4)) _ _ hq
            refine ⟨_, rfl, _, rfl, _, _, rfl, rfl, _, rfl, _, rfl, ?_⟩
            refine ⟨_, rfl, q, _, _, _, rfl, rfl, SqT.of hq4, atI_nat (j := 0) rfl, rfl, _, rfl, ?_⟩
            have fin : ∀ wn : Nat, wn = whlN st → ∃ y5 y6 y7, ((((([some (V.ref bp), some (V.ref pd), some (V.int ((S0 + 1 + S1 : Nat) : Int)), some (V.int (D1 : Nat)), some (V.ref q), some (V.int (manyB f B : Nat)), some (V.int (deepB f B : Nat)), some x] : List (Option V)).set 2 (some (V.int (((S0 + 1 + S1 : Nat) : Int) + ((manyB f B : Nat) : Int))))).set 3 (some (V.int (if (((deepB f B : Nat) : Int) + ((wn : Nat) : Int)) > ((D1 : Nat) : Int) then (((deepB f B : Nat) : Int) + ((wn : Nat) : Int)) else ((D1 : Nat) : Int)))))) = [some (.ref bp), some (.ref pd), some (.int ((S0 + 1 + (((innerB st).take j ++ [B]).map (manyB f)).sum : Nat) : Int)), some (.int ((((innerB st).take j ++ [B]).foldl (fun d x => max d (deepB f x + whlN st)) D0 : Nat) : Int)), some (.ref q), y5, y6, y7]) ∧ Same H2 H4 := fun wn ew => by
              refine ⟨some (V.int (manyB f B : Nat)), some (V.int (deepB f B : Nat)), some x, ?_, s3.trans s4⟩
              rw [List.map_append, List.sum_append, List.foldl_append, hD1, hS1]
              have e4 := max_nat D1 (deepB f B + wn)
              have e5 : (((deepB f B + wn : Nat)) : Int) = ((deepB f B : Nat) : Int) + ((wn : Nat) : Int) := by omega
              rw [e5] at e4
              rw [e4, ew]
              simp only [List.map_cons, List.map_nil, List.sum_cons, List.sum_nil, Nat.add_zero, List.foldl_cons, List.foldl_nil]
              have e6 : (((S0 + 1 + S1 : Nat) : Int)) + ((manyB f B : Nat) : Int) = ((S0 + 1 + (S1 + manyB f B) : Nat) : Int) := by omega
              show [some (V.ref bp), some (V.ref pd), some (V.int ((((S0 + 1 + S1 : Nat) : Int)) + ((manyB f B : Nat) : Int))), some (V.int ((max D1 (deepB f B + whlN st) : Nat) : Int)), some (V.ref q), some (V.int (manyB f B : Nat)), some (V.int (deepB f B : Nat)), some x] = _
              rw [e6]
            exact iteDF (fun e => absurd (V.str.inj e) (by rw [hst]; simp only [kindS]; decide +kernel)) ⟨_, _, rfl, rfl, _, _, rfl, fin 0 (by rw [hst]; rfl)⟩
          · rintro σ H3 ⟨y5, y6, y7, rfl, s3⟩
            have lxs := hxs.length
            rw [List.length_map] at lxs
            rw [lxs, List.take_length, ← many_eq, ← deep_eq]
            exact ⟨some (.ref q), y5, y6, y7, rfl, (s1.trans s2).trans s3⟩
    · rintro σ H1 ⟨y4, y5, y6, y7, rfl, s1⟩
      rw [lb, List.take_length]
      refine ⟨_, rfl, _, rfl, by show 2 ≤ sizeLine; decide, fun t nt => k t _ (s1.trans (same_upd nt)) upd_same⟩
end
end OS

namespace OS
open PySem PySem.Spec PyProof.Rows L2
/-! ### the law's own: the rule of a tree -/
structure LOk (t : Tree) : Prop where
  e : t.ends.length ≤ 4000
  p : t.parts.length ≤ 12
  pp : ∀ p ∈ t.parts, p.params.length ≤ 4000
  n : ∀ p ∈ t.parts, blkNst p.body ≤ 1
  nb : blkNst t.body ≤ 14
  s : ∀ p ∈ t.parts, nB p.body ≤ 4000
  sb : nB t.body ≤ 4000
  st : ∀ p ∈ t.parts, ∀ s ∈ allS p.body, fewE s ∧ nmOk s
  stb : ∀ s ∈ allS t.body, fewE s ∧ nmOk s
theorem blkRule_all (cs : List (Str × Int)) (ends : List Str) (b : List Stm) : blkRule cs ends b = (allS b).findSome? (stmRule cs ends) := by
  unfold blkRule allS
  rw [List.findSome?_map]
  rfl
/-- blocks with their homes, in the order of the rules -/
def homes (t : Tree) : List (List Str × List Stm) := t.parts.map (fun p => (p.params, p.body)) ++ [(t.ends, t.body)]
theorem homes_rule (t : Tree) : (t.parts.findSome? fun p => blkRule (cntP t.parts) p.params p.body).or (blkRule (cntP t.parts) t.ends t.body) = (homes t).findSome? fun h => blkRule (cntP t.parts) h.1 h.2 := by
  unfold homes
  rw [List.findSome?_append, List.findSome?_map]
  congr 1
  simp
theorem stmRule_ne {cs : List (Str × Int)} {ends : List Str} {s : Stm} {z : Str} (h : stmRule cs ends s = some z) : z ≠ "" := by
  unfold stmRule at h
  by_cases c1 : badCall cs s = true
  · rw [if_pos c1] at h
    injection h with h
    rw [← h]
    decide +kernel
  rw [if_neg c1] at h
  by_cases c2 : ∃ e ∈ endsS s, e ∉ ends
  · rw [if_pos c2] at h
    injection h with h
    rw [← h]
    decide +kernel
  rw [if_neg c2] at h
  by_cases c3 : selfM s = true
  · rw [if_pos c3] at h
    injection h with h
    rw [← h]
    decide +kernel
  · rw [if_neg c3] at h
    cases h
def HmAt (K : PySem.W.Frag) (H : Hp) (h : List Str × List Stm) (v : V) : Prop := ∃ a e bv, v = .ref a ∧ H a = some (.tup [.ref e, bv]) ∧ H e = some (.tup (h.1.map V.str)) ∧ At K H (blkDt h.2) bv
theorem HmAt.kt {K : PySem.W.Frag} {H H' : Hp} (k : ∀ b ys, H b = some (.tup ys) → H' b = some (.tup ys)) {h : List Str × List Stm} {v : V} (x : HmAt K H h v) : HmAt K H' h v := by
  obtain ⟨a, e, bv, rfl, h1, h2, h3⟩ := x
  exact ⟨a, e, bv, rfl, k _ _ h1, k _ _ h2, ky_at k (blk_kable2 _) h3⟩
theorem LOk.home {t : Tree} (ok : LOk t) : ∀ h ∈ homes t, blkNst h.2 < 20 ∧ nB h.2 ≤ 4000 ∧ ∀ s ∈ allS h.2, fewE s ∧ nmOk s := fun h hh => by
  unfold homes at hh
  rcases List.mem_append.mp hh with hh | hh
  · obtain ⟨p, hp, rfl⟩ := List.mem_map.mp hh
    exact ⟨Nat.lt_of_le_of_lt (ok.n p hp) (by decide), ok.s p hp, ok.st p hp⟩
  · rw [List.mem_singleton.mp hh]
    exact ⟨Nat.lt_of_le_of_lt ok.nb (by decide), ok.sb, ok.stb⟩
section
variable {P : Program} {w : World} {K : PySem.W.Frag} {mg : Str → Option Value} {base : Heap}
def spRule (K : PySem.W.Frag) : Sp := fun vs H Q _ => ∃ (v : V) (t : Tree), vs = [v] ∧ At K H t.dt v ∧ LOk t ∧ ∀ H', Same H H' → Q (.str ((treeRule t).getD "")) H'
theorem ok_law_rule {f : Addr} {fd : FuncData} (F : Fun K "_law_rule" "_law_rule" s__law_rule f fd) (T : Txt K mg) {f__law_double : Addr} {d__law_double : FuncData} (c__law_double : Cal P w K mg base 1 "_law_double" ["names"] spDbl f__law_double d__law_double) {f__law_all : Addr} {d__law_all : FuncData} (c__law_all : Cal P w K mg base 21 "_law_all" ["block"] (spAll K 20) f__law_all d__law_all) {f__law_statement_rule : Addr} {d__law_statement_rule : FuncData} (c__law_statement_rule : Cal P w K mg base 2 "_law_statement_rule" ["one", "ends", "parts"] (spLSR K) f__law_statement_rule d__law_statement_rule) {f__law_circle : Addr} {d__law_circle : FuncData} (c__law_circle : Cal P w K mg base 23 "_law_circle" ["parts"] (spCirc K) f__law_circle d__law_circle) {f__law_measure : Addr} {d__law_measure : FuncData} (c__law_measure : Cal P w K mg base 41 "_law_measure" ["block", "parts"] (spMeas K 40) f__law_measure d__law_measure) : FnOk P w K mg base CX0 42 f fd ["tree"] (spRule K) := by
  refine F.ok sc__law_rule (fun vs H Q E h => ?_) (fun cdv A outer s H vs Q E hr h => ?_)
  · obtain ⟨v, t, rfl, _⟩ := h
    rfl
  · obtain ⟨v, t, rfl, hat, ok, k⟩ := h
    have hu := hu_of hr
    unfold Tree.dt At at hat
    obtain ⟨tp, vs, rfl, htp, hl⟩ := hat
    simp only [AtL] at hl
    obtain ⟨v0, _, rfl, h0, v1, _, rfl, h1, v2, _, rfl, hb, rfl⟩ := hl
    obtain ⟨ep, rfl, hep⟩ := names_of h0
    unfold At at h1
    obtain ⟨pp, us, rfl, hpp, hA⟩ := h1
    have lus := hA.length
    rw [List.length_map] at lus
    have few := ok.p
    have getP : ∀ (i : Nat) (hi : i < t.parts.length) H', Same H H' → ∃ a q bv, us[i]? = some (.ref a) ∧ H' a = some (.tup [.str t.parts[i].name, .ref q, bv]) ∧ H' q = some (.tup (t.parts[i].params.map V.str)) ∧ At K H' (blkDt t.parts[i].body) bv := fun i hi H' s => by
      obtain ⟨v, e1, e2⟩ := hA.get (i := i) (d := t.parts[i].dt) (by rw [List.getElem?_map, List.getElem?_eq_getElem hi]; rfl)
      obtain ⟨a, q, bv, rfl, ha, hq, hb⟩ := part_at e2
      exact ⟨a, q, bv, e1, s _ _ ha, s _ _ hq, At.keep s hb⟩
    have ktr : ∀ z, treeRule t = some z → ∀ H', Same H H' → Q (.str z) H' := fun z h H' s => by
      have := k H' s
      rw [h] at this
      exact this
    refine ⟨_, (pss_cons (ps_asg (pv 0) (pg_tup (by rfl) (pgs_cons (pg_name (i := 1) sc__law_rule.nd rfl (.inl rfl)) (pgs_cons (pg_name (i := 2) sc__law_rule.nd rfl (.inl rfl)) (pgs_cons (pg_name (i := 3) sc__law_rule.nd rfl (.inl rfl)) pgs_nil)))))
      (Evl.pss_cut (ps_if (PW.pt (pw_or (pt_cmpR op_gt (pe_callB call_len_seq (by rfl) T.len PySem.boot_len (pa_cons (pv 1) pa_nil)) pe_int (nomark _)) (pw_or1 (pt_val (pe_call c__law_double.G (hr.mono (by decide)) (by rfl) c__law_double.m c__law_double.k c__law_double.b .nil pass0 (pa_cons (pv 1) pa_nil)))))) (pss_one (ps_ret pe_str)) pss_nil)
      (Evl.pss_cut (ps_if (pt_val (pe_call c__law_double.G (hr.mono (by decide)) (by rfl) c__law_double.m c__law_double.k c__law_double.b .nil pass0 (pa_cons (pe_lc (own := [("part", 12)]) (g := gName 12) (by rfl) sc__law_rule.nd (pi_tup (pv 2)) (blkOk_by (N := ["tree", "ends", "listed_v", "block", "parts", "name", "parameters", "inner", "home", "one", "size", "deep", "part"]) (sc := defScope s__law_rule) (by decide +kernel)) (fun _ _ _ _ _ => pg_name (i := 12) sc__law_rule.nd rfl (by first | exact Or.inl rfl | exact Or.inr rfl)) (fun _ _ _ _ _ => pts_nil) (fun _ _ _ _ _ => (pe_ix (show IxR _ (rIxT K) from ix_tup) (pv 12) pe_int (fun _ _ => rfl)))) pa_nil))) (pss_one (ps_ret pe_str)) pss_nil)
      (pss_cons (ps_set (i := 4) sc__law_rule.nd rfl (.inl rfl) pe_dnewK)
      (Evl.pss_cut (ps_for PassesOwn.never rfl (pi_tup (pv 2)) (pg_tup (by rfl) (pgs_cons (pg_name (i := 5) sc__law_rule.nd rfl (.inl rfl)) (pgs_cons (pg_name (i := 6) sc__law_rule.nd rfl (.inl rfl)) (pgs_cons (pg_name (i := 7) sc__law_rule.nd rfl (.inl rfl)) pgs_nil)))) (pss_cons (ps_if (pt_val (pe_call c__law_double.G (hr.mono (by decide)) (by rfl) c__law_double.m c__law_double.k c__law_double.b .nil pass0 (pa_cons (pv 6) pa_nil))) (pss_one (ps_ret pe_str)) pss_nil)
      (pss_one (ps_dput hu (pv 4) (pv 5) (pe_tup (pa_cons (pv 6) (pa_cons (pv 7) pa_nil))) rfl))))
      (Evl.pss_cut (ps_for PassesOwn.never rfl (pi_list (pe_op op_cat (pe_lc (own := [("part", 12)]) (g := gName 12) (by rfl) sc__law_rule.nd (pi_tup (pv 2)) (blkOk_by (N := ["tree", "ends", "listed_v", "block", "parts", "name", "parameters", "inner", "home", "one", "size", "deep", "part"]) (sc := defScope s__law_rule) (by decide +kernel)) (fun _ _ _ _ _ => pg_name (i := 12) sc__law_rule.nd rfl (by first | exact Or.inl rfl | exact Or.inr rfl)) (fun _ _ _ _ _ => pts_nil) (fun _ _ _ _ _ => (pe_tup (pa_cons (pe_ix (show IxR _ (rIxT K) from ix_tup) (pv 12) pe_int (fun _ _ => rfl)) (pa_cons (pe_ix (show IxR _ (rIxT K) from ix_tup) (pv 12) pe_int (fun _ _ => rfl)) pa_nil))))) (pe_lst (pa_cons (pe_tup (pa_cons (pv 1) (pa_cons (pv 3) pa_nil))) pa_nil)))) (pg_tup (by rfl) (pgs_cons (pg_name (i := 8) sc__law_rule.nd rfl (.inl rfl)) (pgs_cons (pg_name (i := 7) sc__law_rule.nd rfl (.inl rfl)) pgs_nil))) (pss_one (ps_for PassesOwn.never rfl (pi_list (pe_call c__law_all.G (hr.mono (by decide)) (by rfl) c__law_all.m c__law_all.k c__law_all.b .nil pass0 (pa_cons (pv 7) pa_nil))) (pg_name (i := 9) sc__law_rule.nd rfl (.inl rfl)) (pss_one (ps_if (pt_cmpR op_ne (pe_call c__law_statement_rule.G (hr.mono (by decide)) (by rfl) c__law_statement_rule.m c__law_statement_rule.k c__law_statement_rule.b .nil pass0 (pa_cons (pv 9) (pa_cons (pv 8) (pa_cons (pv 4) pa_nil)))) pe_str (nomark _)) (pss_one (ps_ret (pe_call c__law_statement_rule.G (hr.mono (by decide)) (by rfl) c__law_statement_rule.m c__law_statement_rule.k c__law_statement_rule.b .nil pass0 (pa_cons (pv 9) (pa_cons (pv 8) (pa_cons (pv 4) pa_nil)))))) pss_nil)))))
      (pss_cons (ps_if (pt_val (pe_call c__law_circle.G (hr.mono (by decide)) (by rfl) c__law_circle.m c__law_circle.k c__law_circle.b .nil pass0 (pa_cons (pv 4) pa_nil))) (pss_one (ps_ret pe_str)) pss_nil)
      (pss_cons (ps_asg (pe_call c__law_measure.G (hr.mono (by decide)) (by rfl) c__law_measure.m c__law_measure.k c__law_measure.b .nil pass0 (pa_cons (pv 3) (pa_cons (pv 4) pa_nil))) (pg_tup (by rfl) (pgs_cons (pg_name (i := 10) sc__law_rule.nd rfl (.inl rfl)) (pgs_cons (pg_name (i := 11) sc__law_rule.nd rfl (.inl rfl)) pgs_nil))))
      (pss_one (ps_ret (pe_ifExp (pt_cmpR op_gt (pv 11) pe_int (nomark _)) pe_str (pe_ifExp (pt_cmpR op_gt (pv 10) pe_int (nomark _)) pe_str pe_str)))))))))))), ?_⟩
    refine ⟨_, rfl, tp, _, rfl, SqT.of htp, rfl, _, _, rfl, _, _, rfl, _, _, rfl, rfl, ?_⟩
    -- ends
    refine ⟨fun σ H' => σ = [some (.ref tp), some (.ref ep), some (.ref pp), some v2, none, none, none, none, none, none, none, none, none] ∧ Same H H' ∧ ¬ (6 < t.ends.length ∨ ¬ t.ends.Nodup), ?_, ?_⟩
    · have bad : 6 < t.ends.length ∨ ¬ t.ends.Nodup → treeRule t = some ("ends" : Str) := fun h => by
        unfold treeRule stmsRule nameRule
        rw [if_pos h]
        rfl
      refine ⟨_, rfl, ep, _, rfl, .inr (SqT.of hep), _, _, rfl, rfl, _, rfl, ?_⟩
      rw [List.length_map]
      by_cases c1 : 6 < t.ends.length
      · exact iteDT (by omega) (iteT (ktr _ (bad (.inl c1)) H fun _ _ e => e))
      · refine iteDF (by omega) ⟨_, rfl, .inl ⟨ep, t.ends, rfl, hep, ok.e, fun H1 s1 => ⟨_, rfl, ?_⟩⟩⟩
        by_cases c2 : t.ends.Nodup
        · exact iteDF (fun n => n c2) ⟨rfl, s1, fun h => h.elim c1 fun n => n c2⟩
        · exact iteDT c2 (ktr _ (bad (.inr c2)) H1 s1)
    rintro σ H1 ⟨rfl, s1, ne⟩
    -- names of parts
    refine ⟨fun σ H' => σ = [some (.ref tp), some (.ref ep), some (.ref pp), some v2, none, none, none, none, none, none, none, none, none] ∧ Same H H' ∧ (namesP t.parts).Nodup, ?_, ?_⟩
    · refine ⟨_, rfl, pp, rfl, ⟨_, SqT.of (s1 _ _ hpp)⟩, fun D nD => ?_⟩
      refine lc_it (walk_tup (K := K) (a := pp) (xs := us)) (fun i H' => H' D = some (.lst ((namesP (t.parts.take i)).map V.str)) ∧ Same H1 H') ⟨by rw [List.take_zero]; exact upd_same, same_upd nD⟩ (fun i H' _ x => SqT.of ((s1.trans x.2) _ _ hpp)) ?_ ?_
      · rintro i x H2 H2 hi ⟨hD, s2⟩ ⟨rfl, hx⟩
        have hip : i < t.parts.length := by omega
        obtain ⟨a, q, bv, hu2, ha, _, _⟩ := getP i hip H2 (s1.trans s2)
        rw [hx] at hu2
        cases hu2
        refine ⟨rfl, iteT (B := True) ⟨_, rfl, a, _, _, _, rfl, rfl, SqT.of ha, atI_nat (j := 0) rfl, _, hD, sz6' (by rw [List.length_map, namesP, List.length_map, List.length_take]; omega), ?_, same_off nD s2⟩⟩
        rw [upd_same, List.take_add_one, List.getElem?_eq_getElem hip]
        unfold namesP
        rw [List.map_append, List.map_append]
        rfl
      · rintro H2 ⟨hD, s2⟩
        rw [lus, List.take_length] at hD
        refine .inr ⟨D, namesP t.parts, rfl, hD, by rw [namesP, List.length_map]; omega, fun H3 s3 => ⟨_, rfl, ?_⟩⟩
        have s13 := s1.trans (s2.trans s3)
        by_cases c : (namesP t.parts).Nodup
        · exact iteDF (fun n => n c) ⟨rfl, s13, c⟩
        · refine iteDT c (ktr ("parts" : Str) ?_ H3 s13)
          unfold treeRule stmsRule nameRule
          rw [if_neg ne, if_pos (show ¬ (t.parts.map (·.name)).Nodup from c)]
          rfl
    rintro σ H2 ⟨rfl, s2, nd⟩
    intro pd npd
    have npd0 : H pd = none := s2.free npd
    have s3 := s2.trans (same_upd (o := .dK []) npd)
    have hpd3 : upd H2 pd (.dK []) pd = some (.dK []) := upd_same
    generalize upd H2 pd (.dK []) = H3 at s3 hpd3 ⊢
    have lnm : (namesP t.parts).length = t.parts.length := List.length_map ..
    have ntk : ∀ (i : Nat) (hi : i < t.parts.length), t.parts[i].name ∉ namesP (t.parts.take i) := fun i hi h => by
      have nd2 := nd
      rw [namesP, ← List.take_append_drop (i + 1) t.parts, List.take_add_one, List.getElem?_eq_getElem hi, List.map_append, List.map_append] at nd2
      exact (List.nodup_append.mp (List.nodup_append.mp nd2).1).2.2 _ h _ (by simp) rfl
    refine ⟨fun σ H' => ∃ y5 y6 y7 ba, σ = [some (.ref tp), some (.ref ep), some (.ref pp), some v2, some (.ref pd), y5, y6, y7, none, none, none, none, none] ∧ Same H H' ∧ PdAt K H' pd t.parts ba ∧ ¬ ∃ p ∈ t.parts, ¬ p.params.Nodup, ?_, ?_⟩
    · refine ⟨_, rfl, pp, rfl, ⟨_, SqT.of (s3 _ _ hpp)⟩, ?_⟩
      refine for_tup (K := K) (a := pp) (xs := us) (fun i σ H' => ∃ y5 y6 y7 ba, σ = [some (.ref tp), some (.ref ep), some (.ref pp), some v2, some (.ref pd), y5, y6, y7, none, none, none, none, none] ∧ Same H H' ∧ PdAt K H' pd (t.parts.take i) ba ∧ ∀ p ∈ t.parts.take i, p.params.Nodup) ⟨_, _, _, fun _ => 0, rfl, s3, ⟨by rw [List.take_zero]; exact hpd3, fun p hp => by rw [List.take_zero] at hp; cases hp⟩, fun p hp => by rw [List.take_zero] at hp; cases hp⟩ (fun i σ H' _ x => by obtain ⟨_, _, _, _, _, s, _⟩ := x; exact SqT.of (s _ _ hpp)) ?_ ?_
      · rintro i x σ H4 hx ⟨y5, y6, y7, ba, rfl, s4, hpd4, hnd⟩
        have hip : i < t.parts.length := by
          have := (List.getElem?_eq_some_iff.mp hx).1
          omega
        obtain ⟨a, q, bv, hu2, ha, hq, hbv⟩ := getP i hip H4 s4
        rw [hx] at hu2
        cases hu2
        have hmi := List.getElem_mem hip
        have etk : t.parts.take (i + 1) = t.parts.take i ++ [t.parts[i]] := by rw [List.take_add_one, List.getElem?_eq_getElem hip]; rfl
        refine ⟨a, _, rfl, SqT.of ha, rfl, _, _, rfl, _, _, rfl, _, _, rfl, rfl, ?_⟩
        refine ⟨_, rfl, .inl ⟨q, t.parts[i].params, rfl, hq, ok.pp _ hmi, fun H5 s5 => ⟨_, rfl, ?_⟩⟩⟩
        have s45 := s4.trans s5
        by_cases c : t.parts[i].params.Nodup
        · refine iteDF (fun n => n c) ⟨_, rfl, _, rfl, by show 2 ≤ sizeLine; decide, fun tt ntt => ?_⟩
          have s6 := same_upd (o := .tup [.ref q, bv]) ntt
          have hpd6 := (hpd4.keep s5).keep s6
          refine ⟨_, rfl, _, rfl, pd, _, rfl, DPut.k (k := Sum.inr t.parts[i].name) hpd6.1 (sz6' (by rw [kf_len, namesP, List.length_map, List.length_take]; omega)), _, _, _, fun n => if n = t.parts[i].name then tt else ba n, rfl, same_off npd0 (s45.trans s6), ?_, ?_⟩
          · rw [etk]
            refine ⟨?_, fun p hp => ?_⟩
            · rw [upd_same, kf_new (ntk i hip)]
              unfold namesP
              rw [List.map_append]
              refine congrArg (fun z => some (HO.dK z)) (kf_congr fun n _ => ?_)
              unfold setF
              show (if n = t.parts[i].name then V.ref tt else V.ref (ba n)) = V.ref (if n = t.parts[i].name then tt else ba n)
              by_cases e : n = t.parts[i].name
              · rw [if_pos e, if_pos e]
              · rw [if_neg e, if_neg e]
            · show BkAt K _ p (if p.name = t.parts[i].name then tt else ba p.name)
              by_cases e : p.name = t.parts[i].name
              · have hpm : p ∈ t.parts := (List.mem_append.mp hp).elim List.mem_of_mem_take fun z => by rw [List.mem_singleton.mp z]; exact hmi
                have := part_eq nd hpm hmi e
                rw [if_pos e, this]
                exact BkAt.kt (tup_dict hpd6.1) ⟨q, bv, upd_same, (s5.trans s6) _ _ hq, At.keep (s5.trans s6) hbv⟩
              · rw [if_neg e]
                have hpt := (List.mem_append.mp hp).resolve_right fun z => e (by rw [List.mem_singleton.mp z])
                exact BkAt.kt (tup_dict hpd6.1) (hpd6.2 p hpt)
          · rw [etk]
            intro p hp
            rcases List.mem_append.mp hp with hp | hp
            · exact hnd p hp
            · rw [List.mem_singleton.mp hp]
              exact c
        · refine iteDT c (ktr ("parameters" : Str) ?_ H5 s45)
          unfold treeRule stmsRule nameRule
          rw [if_neg ne, if_neg (show ¬ ¬ (t.parts.map (·.name)).Nodup from fun n => n nd), if_pos ⟨_, hmi, c⟩]
          rfl
      · rintro σ H4 ⟨y5, y6, y7, ba, rfl, s4, hpd4, hnd⟩
        rw [lus, List.take_length] at hpd4 hnd
        exact ⟨_, _, _, ba, rfl, s4, hpd4, fun ⟨p, hp, n⟩ => n (hnd p hp)⟩
    rintro σ H4 ⟨y5, y6, y7, ba, rfl, s4, hpd4, np⟩
    have nrule : nameRule t.ends t.parts = none := by
      unfold nameRule
      rw [if_neg ne, if_neg (show ¬ ¬ (t.parts.map (·.name)).Nodup from fun n => n nd), if_neg np]
    have strul : stmsRule t = (homes t).findSome? fun h => blkRule (cntP t.parts) h.1 h.2 := by
      unfold stmsRule
      rw [nrule, Option.none_or, homes_rule]
    refine ⟨fun σ H' => ∃ y5 y6 y7 y8 y9, σ = [some (.ref tp), some (.ref ep), some (.ref pp), some v2, some (.ref pd), y5, y6, y7, y8, y9, none, none, none] ∧ Same H4 H' ∧ stmsRule t = none, ?_, ?_⟩
    · refine ⟨_, rfl, pp, rfl, ⟨_, SqT.of (s4 _ _ hpp)⟩, fun D nD => ?_⟩
      refine lc_it (walk_tup (K := K) (a := pp) (xs := us)) (fun i H' => ∃ acc, H' D = some (.lst acc) ∧ LR (HmAt K H') ((t.parts.take i).map fun p => (p.params, p.body)) acc ∧ Same H4 H') ⟨[], upd_same, by rw [List.take_zero]; exact rfl, same_upd nD⟩ (fun i H' _ x => by obtain ⟨_, _, _, s⟩ := x; exact SqT.of ((s4.trans s) _ _ hpp)) ?_ ?_
      · rintro i x H5 H5 hi ⟨acc, hD, hL, s5⟩ ⟨rfl, hx⟩
        have hip : i < t.parts.length := by omega
        obtain ⟨a, q, bv, hu2, ha, hq, hbv⟩ := getP i hip H5 (s4.trans s5)
        rw [hx] at hu2
        cases hu2
        have ll := hL.len
        rw [List.length_map, List.length_take] at ll
        refine ⟨rfl, iteT (B := True) ⟨_, rfl, a, _, _, _, rfl, rfl, SqT.of ha, atI_nat (j := 1) rfl, _, rfl, a, _, _, _, rfl, rfl, SqT.of ha, atI_nat (j := 2) rfl, by show 2 ≤ sizeLine; decide, fun tt ntt => ?_⟩⟩
        have s6 := same_upd (o := .tup [.ref q, bv]) ntt
        have hD6 := s6 _ _ hD
        have tk := tup_list (o := .lst (acc ++ [.ref tt])) hD6
        refine ⟨acc, hD6, sz6' (by omega), acc ++ [.ref tt], upd_same, ?_, same_off nD (s5.trans s6)⟩
        rw [List.take_add_one, List.getElem?_eq_getElem hip, List.map_append]
        exact (hL.mono fun x v h => HmAt.kt tk (HmAt.kt (fun b ys e => s6 b _ e) h)).app (LR.one (HmAt.kt tk ⟨tt, q, bv, rfl, upd_same, s6 _ _ hq, At.keep s6 hbv⟩))
      rintro H5 ⟨acc, hD, hL, s5⟩
      rw [lus, List.take_length] at hL
      have ll := hL.len
      rw [List.length_map] at ll
      refine ⟨_, rfl, _, rfl, by show 2 ≤ sizeLine; decide, fun t1 nt1 => ⟨by show 1 ≤ sizeLine; decide, fun l1 nl1 => ?_⟩⟩
      have s6 := same_upd (o := .tup [.ref ep, v2]) nt1
      have s7 := same_upd (o := .lst [V.ref t1]) nl1
      have s67 := s6.trans s7
      refine ⟨D, l1, acc, [.ref t1], rfl, rfl, s67 _ _ hD, upd_same, by rw [List.length_singleton]; exact sz6 (by omega), fun hl nhl => ⟨hl, rfl, ⟨_, SqL.of upd_same⟩, ?_⟩⟩
      have s8 := same_upd (o := .lst (acc ++ [V.ref t1])) nhl
      have s58 := s67.trans s8
      have hhl : upd (upd (upd H5 t1 (.tup [.ref ep, v2])) l1 (.lst [V.ref t1])) hl (.lst (acc ++ [V.ref t1])) hl = some (.lst (acc ++ [V.ref t1])) := upd_same
      have s48 := s5.trans s58
      have hh : LR (HmAt K (upd (upd (upd H5 t1 (.tup [.ref ep, v2])) l1 (.lst [V.ref t1])) hl (.lst (acc ++ [V.ref t1])))) (homes t) (acc ++ [V.ref t1]) :=
        (hL.mono fun x v h => HmAt.kt (fun b ys e => s58 b _ e) h).app (LR.one ⟨t1, ep, v2, rfl, (s7.trans s8) _ _ upd_same, (s4.trans s48) _ _ hep, At.keep (s4.trans s48) hb⟩)
      generalize upd (upd (upd H5 t1 (.tup [.ref ep, v2])) l1 (.lst [V.ref t1])) hl (.lst (acc ++ [V.ref t1])) = H8 at hhl hh s48 ⊢
      have lh := hh.len
      refine for_list (K := K) (a := hl) (xs := acc ++ [V.ref t1]) (fun i σ H' => ∃ y5 y6 y7 y8 y9, σ = [some (.ref tp), some (.ref ep), some (.ref pp), some v2, some (.ref pd), y5, y6, y7, y8, y9, none, none, none] ∧ Same H8 H' ∧ ((homes t).take i).findSome? (fun h => blkRule (cntP t.parts) h.1 h.2) = none) ⟨_, _, _, _, _, rfl, fun _ _ e => e, by rw [List.take_zero]; rfl⟩ (fun i σ H' _ x => by obtain ⟨_, _, _, _, _, _, s, _⟩ := x; exact SqL.of (s _ _ hhl)) ?_ ?_
      · rintro i x σ H9 hx ⟨y5, y6, y7, y8, y9, rfl, s9, hno⟩
        have hi : i < (homes t).length := by
          have := (List.getElem?_eq_some_iff.mp hx).1
          omega
        obtain ⟨v9, e1, hv9⟩ := hh.get (List.getElem?_eq_getElem hi)
        rw [hx] at e1
        cases e1
        obtain ⟨a, eq, bv, rfl, ha, heq, hbv⟩ := HmAt.kt (fun b ys e => s9 b _ e) hv9
        have hmi := List.getElem_mem hi
        obtain ⟨ok1, ok2, ok3⟩ := ok.home _ hmi
        have etk : (homes t).take (i + 1) = (homes t).take i ++ [(homes t)[i]] := by rw [List.take_add_one, List.getElem?_eq_getElem hi]; rfl
        have bad : ∀ z, blkRule (cntP t.parts) (homes t)[i].1 (homes t)[i].2 = some z → treeRule t = some z := fun z hz => by
          have : stmsRule t = some z := by
            rw [strul, ← List.take_append_drop i (homes t), List.findSome?_append, hno, List.drop_eq_getElem_cons hi, Option.none_or, List.findSome?_cons]
            simp only [hz]
          unfold treeRule
          rw [this]
          rfl
        generalize (homes t)[i] = hm at heq hbv ok1 ok2 ok3 etk bad
        refine ⟨a, _, rfl, SqT.of ha, rfl, _, _, rfl, _, _, rfl, rfl, ?_⟩
        refine ⟨_, rfl, bv, hm.2, rfl, hbv, ok1, ok2, fun l us9 H10 s10 nl hl10 hA10 => ⟨l, rfl, ⟨_, SqL.of hl10⟩, ?_⟩⟩
        have lu9 := hA10.length
        rw [List.length_map] at lu9
        have s4x := (s48.trans s9).trans s10
        refine for_list (K := K) (a := l) (xs := us9) (fun j σ H' => ∃ y9, σ = [some (.ref tp), some (.ref ep), some (.ref pp), some v2, some (.ref pd), y5, y6, some bv, some (.ref eq), y9, none, none, none] ∧ Same H10 H' ∧ ((allS hm.2).take j).findSome? (stmRule (cntP t.parts) hm.1) = none) ⟨_, rfl, fun _ _ e => e, by rw [List.take_zero]; rfl⟩ (fun j σ H' _ x => by obtain ⟨_, _, s, _⟩ := x; exact SqL.of (s _ _ hl10)) ?_ ?_
        · rintro j x σ H11 hx ⟨y9, rfl, s11, hnoj⟩
          have hj : j < (allS hm.2).length := by
            have := (List.getElem?_eq_some_iff.mp hx).1
            omega
          obtain ⟨v11, e1, e2⟩ := hA10.get (i := j) (d := (allS hm.2)[j].dt) (by rw [List.getElem?_map, List.getElem?_eq_getElem hj]; rfl)
          rw [hx] at e1
          cases e1
          have hmj := List.getElem_mem hj
          obtain ⟨fw, nm⟩ := ok3 _ hmj
          have etj : (allS hm.2).take (j + 1) = (allS hm.2).take j ++ [(allS hm.2)[j]] := by rw [List.take_add_one, List.getElem?_eq_getElem hj]; rfl
          have badj : ∀ z, stmRule (cntP t.parts) hm.1 (allS hm.2)[j] = some z → treeRule t = some z := fun z hz => bad z (by
            rw [blkRule_all, ← List.take_append_drop j (allS hm.2), List.findSome?_append, hnoj, List.drop_eq_getElem_cons hj, Option.none_or, List.findSome?_cons]
            simp only [hz])
          rw [etj]
          generalize (allS hm.2)[j] = st at e2 fw nm badj ⊢
          refine ⟨_, rfl, _, rfl, _, rfl, x, eq, pd, st, hm.1, t.parts, ba, rfl, At.keep s11 e2, (s10.trans s11) _ _ heq, (hpd4.keep s4x).keep s11, nd, fw, nm, fun H12 s12 => ⟨rfl, _, rfl, ?_⟩⟩
          cases hz : stmRule (cntP t.parts) hm.1 st with
          | none =>
            refine iteNF rfl ⟨_, rfl, s11.trans s12, ?_⟩
            rw [List.findSome?_append, hnoj]
            simp [hz]
          | some z =>
            refine iteNT (fun e => stmRule_ne hz (V.str.inj e)) ⟨_, rfl, _, rfl, _, rfl, x, eq, pd, st, hm.1, t.parts, ba, rfl, At.keep (s11.trans s12) e2, (s10.trans (s11.trans s12)) _ _ heq, ((hpd4.keep s4x).keep s11).keep s12, nd, fw, nm, fun H13 s13 => ?_⟩
            rw [hz]
            exact ktr z (badj z hz) H13 (s4.trans (s4x.trans (s11.trans (s12.trans s13))))
        · rintro σ H11 ⟨y9, rfl, s11, hnoj⟩
          rw [lu9, List.take_length, ← blkRule_all] at hnoj
          refine ⟨_, _, _, _, _, rfl, s9.trans (s10.trans s11), ?_⟩
          rw [etk, List.findSome?_append, hno]
          simp [hnoj]
      · rintro σ H9 ⟨y5, y6, y7, y8, y9, rfl, s9, hno⟩
        rw [lh, List.take_length, ← strul] at hno
        exact ⟨_, _, _, _, _, rfl, s48.trans s9, hno⟩
    rintro σ H5 ⟨y5, y6, y7, y8, y9, rfl, s5, sno⟩
    have s45 := s4.trans s5
    have hpd5 := hpd4.keep s5
    have sno2 := sno
    unfold stmsRule at sno2
    obtain ⟨_, sno3⟩ := or_none sno2
    obtain ⟨sn4, sn5⟩ := or_none sno3
    have hin : ∀ p ∈ t.parts, ∀ q ∈ callsB p.body, q ∈ namesP t.parts := fun p hp => calls_in ((List.findSome?_eq_none_iff.mp sn4) p hp)
    have hinb : ∀ q ∈ callsB t.body, q ∈ namesP t.parts := calls_in sn5
    refine ⟨_, rfl, pd, t.parts, ba, rfl, hpd5, ⟨nd, ok.p, hin, fun p hp => Nat.lt_of_le_of_lt (ok.n p hp) (by decide), ok.s⟩, fun b hbc H6 s6 => ⟨_, rfl, ?_⟩⟩
    have s46 := s45.trans s6
    cases b with
    | true =>
      have hc := hbc.mp rfl
      refine iteT (ktr ("circle" : Str) ?_ H6 s46)
      unfold treeRule
      rw [sno, Option.none_or, if_pos hc]
    | false =>
      have hc : ¬ Kn.Circ (namesP t.parts) (callersP t.parts) := fun z => by have := hbc.mpr z; cases this
      have al := all_siz nd hc hin
      have hgb : Hg t.parts 40 t.body := by
        have h1 := hg_nest (parts := t.parts) (k := 2 * 12) 14 t.body ok.nb fun q hq => by
          rw [← callsB_eq] at hq
          obtain ⟨p2, hp2, rfl⟩ := List.mem_map.mp (hinb q hq)
          exact ⟨p2, hp2, rfl, hg_part nd hc hin ok.n 12 p2 hp2 (Nat.le_trans (rk_le _ _) ok.p)⟩
        exact h1.le (by decide)
      refine iteF ⟨_, rfl, _, rfl, v2, pd, t.body, t.parts, ba, rfl, At.keep s46 hb, hpd5.keep s6, nd, al, hin, hgb, fun mp H7 s7 hmp => ?_⟩
      refine ⟨mp, _, rfl, SqT.of hmp, rfl, _, _, rfl, _, _, rfl, rfl, ?_⟩
      have k7 := k H7 (s46.trans s7)
      unfold treeRule at k7
      rw [sno, Option.none_or, if_neg hc, meas_eq] at k7
      refine ⟨_, rfl, _, _, rfl, rfl, _, rfl, ?_⟩
      by_cases c1 : 3 < deepB (szOf t.parts) t.body
      · rw [if_pos c1] at k7
        exact iteDT (by omega) k7
      · rw [if_neg c1] at k7
        refine iteDF (by omega) ⟨_, rfl, _, _, rfl, rfl, _, rfl, ?_⟩
        by_cases c2 : 150 < manyB (szOf t.parts) t.body
        · rw [if_pos c2] at k7
          exact iteDT (by omega) k7
        · rw [if_neg c2] at k7
          exact iteDF (by omega) k7
end
end OS

namespace OS
open PySem PySem.Spec PyProof.Rows L2
/-! ### spoilt trees stay within bounds -/
structure BG (n m : Nat) (b : List Stm) : Prop where
  nst : blkNst b ≤ n
  nb : nB b ≤ m
  st : ∀ s ∈ allS b, fewE s ∧ nmOk s
  av : avB vSm b
theorem BG.le {n m n' m' : Nat} {b : List Stm} (g : BG n m b) (h1 : n ≤ n') (h2 : m ≤ m') : BG n' m' b := ⟨Nat.le_trans g.nst h1, Nat.le_trans g.nb h2, g.st, g.av⟩
theorem nst_app : ∀ a b : List Stm, blkNst (a ++ b) = max (blkNst a) (blkNst b)
  | [], b => by simp [blkNst]
  | s :: r, b => by simp only [List.cons_append, blkNst, nst_app r b]; omega
theorem BG.nil {n m : Nat} : BG n m [] := ⟨by simp [blkNst], by simp [nB], fun s h => by simp [allS, preB] at h, by simp [avB]⟩
theorem BG.app {n m k : Nat} {a b : List Stm} (g : BG n m a) (h : BG n k b) : BG n (m + k) (a ++ b) := by
  refine ⟨?_, ?_, fun s hs => ?_, avB_app g.av h.av⟩
  · rw [nst_app]
    exact Nat.max_le.mpr ⟨g.nst, h.nst⟩
  · rw [nB_app]
    exact Nat.add_le_add g.nb h.nb
  · rw [allS_app] at hs
    exact (List.mem_append.mp hs).elim (g.st s) (h.st s)
theorem BG.rep {n m : Nat} {s : Stm} (g : BG n m [s]) : ∀ k : Nat, BG n (m * k) (List.replicate k s)
  | 0 => .nil
  | k + 1 => by
    have := g.app (BG.rep g k)
    rw [List.replicate_succ, Nat.mul_succ, Nat.add_comm]
    exact this
theorem bg_one {s : Stm} (h1 : s.nst = 0) (h2 : nS s = 1) (h3 : allS [s] = [s]) (few : fewE s) (nm : nmOk s) (av : avS vSm s) : BG 0 1 [s] := by
  refine ⟨by simp [blkNst, h1], by simp [nB, h2], fun x hx => ?_, by simp only [avB, and_true]; exact av⟩
  rw [h3] at hx
  rw [List.mem_singleton.mp hx]
  exact ⟨few, nm⟩
theorem bg_ask {e x : Str} (h : PyData.strOk e = true) : BG 0 1 [.ask e x] := by
  refine bg_one rfl (by simp [nS]) (by simp [allS, preB, preS]) ?_ ?_ ?_
  · show (1 : Nat) ≤ 4000
    omega
  · intro z hz
    have hz : z ∈ [e] := hz
    rw [List.mem_singleton.mp hz]
    exact h
  · simp [avS]
theorem bg_call {p : Str} {es : List Str} (h1 : es.length ≤ 4000) (h : ∀ e ∈ es, PyData.strOk e = true) : BG 0 1 [.call p es] := by
  refine bg_one rfl (by simp [nS]) (by simp [allS, preB, preS]) h1 h (by simp [avS])
theorem bg_msg {a b l x : Str} {v : Val} (h1 : PyData.strOk a = true) (h2 : PyData.strOk b = true) (hv : vSm v) : BG 0 1 [.msg a b l v x] := by
  refine bg_one rfl (by simp [nS]) (by simp [allS, preB, preS]) ?_ ?_ (by simp only [avS]; exact hv)
  · show (2 : Nat) ≤ 4000
    omega
  · intro z hz
    have hz : z ∈ [a, b] := hz
    simp only [List.mem_cons, List.not_mem_nil, or_false] at hz
    rcases hz with rfl | rfl
    · exact h1
    · exact h2
theorem bg_ite {n m k : Nat} {e : Str} {v : Val} {y z : List Stm} (h : PyData.strOk e = true) (hv : vSm v) (gy : BG n m y) (gz : BG n k z) : BG (n + 1) (1 + m + k) [.ite e v y z] := by
  refine ⟨?_, ?_, fun x hx => ?_, ?_⟩
  · have := gy.nst
    have := gz.nst
    show max (max (blkNst y) (blkNst z) + 1) 0 ≤ n + 1
    omega
  · have := gy.nb
    have := gz.nb
    simp only [nB, nS]
    omega
  · rw [allS_ite] at hx
    rcases List.mem_append.mp hx with hx | hx
    · rcases List.mem_append.mp hx with hx | hx
      · rw [List.mem_singleton.mp hx]
        refine ⟨show (1 : Nat) ≤ 4000 by omega, fun q hq => ?_⟩
        have hq : q ∈ [e] := hq
        rw [List.mem_singleton.mp hq]
        exact h
      · exact gy.st x hx
    · exact gz.st x hx
  · simp only [avB, avS, and_true]
    exact ⟨hv, gy.av, gz.av⟩
theorem bg_whl {n m : Nat} {e : Str} {v : Val} {y : List Stm} (h : PyData.strOk e = true) (hv : vSm v) (gy : BG n m y) : BG (n + 1) (1 + m) [.whl e v y] := by
  refine ⟨?_, ?_, fun x hx => ?_, ?_⟩
  · have := gy.nst
    show max (blkNst y + 1) 0 ≤ n + 1
    omega
  · have := gy.nb
    simp only [nB, nS]
    omega
  · rw [allS_whl] at hx
    rcases List.mem_append.mp hx with hx | hx
    · rw [List.mem_singleton.mp hx]
      refine ⟨show (1 : Nat) ≤ 4000 by omega, fun q hq => ?_⟩
      have hq : q ∈ [e] := hq
      rw [List.mem_singleton.mp hq]
      exact h
    · exact gy.st x hx
  · simp only [avB, avS, and_true]
    exact ⟨hv, gy.av⟩
theorem vsm_num (n : Int) : vSm (.num n) := by
  unfold vSm
  simp only [Val.dt, szD, szDL]
  omega
def szv : Nat → Nat
  | 0 => 3
  | n + 1 => 2 + 2 * szv n
theorem szv_le : ∀ n, 3 ≤ szv n
  | 0 => Nat.le_refl _
  | n + 1 => by
    have := szv_le n
    simp only [szv]
    omega
theorem sz_dep : ∀ (n : Nat) (v : Val), v.dep ≤ n → szD v.dt ≤ szv n
  | n, .num _, _ => by
    have := szv_le n
    simp only [Val.dt, szD, szDL]
    omega
  | n, .name _, _ => by
    have := szv_le n
    simp only [Val.dt, szD, szDL]
    omega
  | 0, .op s a b, h => by
    have h : max a.dep b.dep + 1 ≤ 0 := h
    omega
  | n + 1, .op s a b, h => by
    have h : max a.dep b.dep + 1 ≤ n + 1 := h
    have h1 := sz_dep n a (by omega)
    have h2 := sz_dep n b (by omega)
    simp only [Val.dt, szD, szDL, szv]
    omega
theorem vsm_of {v : Val} (h : VO2 v) : vSm v := Nat.le_trans (sz_dep 2 v h.2) (by decide)
theorem nmS_ok {x : Str} (h : Nm x) : PyData.strOk x = true := by
  unfold Nm at h
  rcases h with rfl | rfl | rfl | rfl | rfl | rfl | rfl | rfl | rfl | rfl | rfl | rfl | rfl | rfl | rfl <;> decide +kernel
mutual
theorem nB_wdS : ∀ s : Stm, 3 * nS s ≤ s.wd
  | .msg _ _ _ v _ => by simp only [nS, Stm.wd]; omega
  | .set _ _ v => by simp only [nS, Stm.wd]; omega
  | .ask _ _ => by simp only [nS, Stm.wd]; omega
  | .call _ cs => by simp only [nS, Stm.wd]; omega
  | .ite _ v y n => by
    have := nB_wd y
    have := nB_wd n
    simp only [nS, Stm.wd]
    omega
  | .whl _ v b => by
    have := nB_wd b
    simp only [nS, Stm.wd]
    omega
theorem nB_wd : ∀ b : List Stm, 3 * nB b ≤ blkWd b
  | [] => by simp [nB, blkWd]
  | s :: r => by
    have := nB_wdS s
    have := nB_wd r
    simp only [nB, blkWd]
    omega
end
mutual
theorem av_okS : ∀ {s : Stm}, SOk s → avS vSm s
  | .msg _ _ _ v _, h => by simp only [SOk] at h; simp only [avS]; exact vsm_of h.2.2.2.1
  | .set _ _ v, h => by simp only [SOk] at h; simp only [avS]; exact vsm_of h.2.2
  | .ask _ _, h => by simp [avS]
  | .call _ cs, h => by simp [avS]
  | .ite _ v y n, h => by
    simp only [SOk] at h
    simp only [avS]
    exact ⟨vsm_of h.2.1, av_ok h.2.2.1, av_ok h.2.2.2⟩
  | .whl _ v b, h => by
    simp only [SOk] at h
    simp only [avS]
    exact ⟨vsm_of h.2.1, av_ok h.2.2⟩
theorem av_ok : ∀ {b : List Stm}, blkOk b → avB vSm b
  | [], _ => by simp [avB]
  | s :: r, h => by
    simp only [blkOk] at h
    simp only [avB]
    exact ⟨av_okS h.1, av_ok h.2⟩
end
theorem few_nm {es : List Str} {s : Stm} (e : endsS s = es) (h1 : es.length ≤ 4000) (h2 : ∀ x ∈ es, Nm x) : fewE s ∧ nmOk s := by
  unfold fewE nmOk
  rw [e]
  exact ⟨h1, fun x hx => nmS_ok (h2 x hx)⟩
theorem one_nm {e : Str} (h : Nm e) : ∀ x ∈ [e], Nm x := fun x hx => by rw [List.mem_singleton.mp hx]; exact h
mutual
theorem fw_okS : ∀ {s : Stm} (l : Nat), SOk s → s.wd ≤ 8000 → ∀ p ∈ preS l s, fewE p.1 ∧ nmOk p.1
  | .msg a b _ v _, l, h, w, p, hp => by
    simp only [SOk] at h
    simp only [preS, List.mem_singleton] at hp
    rw [hp]
    refine few_nm (es := [a, b]) rfl (by show (2 : Nat) ≤ 4000; omega) fun x hx => ?_
    simp only [List.mem_cons, List.not_mem_nil, or_false] at hx
    rcases hx with rfl | rfl
    · exact h.1
    · exact h.2.1
  | .set e _ v, l, h, w, p, hp => by
    simp only [SOk] at h
    simp only [preS, List.mem_singleton] at hp
    rw [hp]
    exact few_nm (es := [e]) rfl (by show (1 : Nat) ≤ 4000; omega) (one_nm h.1)
  | .ask e _, l, h, w, p, hp => by
    simp only [SOk] at h
    simp only [preS, List.mem_singleton] at hp
    rw [hp]
    exact few_nm (es := [e]) rfl (by show (1 : Nat) ≤ 4000; omega) (one_nm h.1)
  | .call _ cs, l, h, w, p, hp => by
    simp only [SOk] at h
    simp only [Stm.wd] at w
    simp only [preS, List.mem_singleton] at hp
    rw [hp]
    exact few_nm (es := cs) rfl (by omega) h.2.2
  | .ite e v y n, l, h, w, p, hp => by
    simp only [SOk] at h
    simp only [Stm.wd] at w
    simp only [preS, List.mem_cons, List.mem_append] at hp
    rcases hp with hp | hp | hp
    · rw [hp]
      exact few_nm (es := [e]) rfl (by show (1 : Nat) ≤ 4000; omega) (one_nm h.1)
    · exact fw_ok l h.2.2.1 (by omega) p hp
    · exact fw_ok l h.2.2.2 (by omega) p hp
  | .whl e v b, l, h, w, p, hp => by
    simp only [SOk] at h
    simp only [Stm.wd] at w
    simp only [preS, List.mem_cons] at hp
    rcases hp with hp | hp
    · rw [hp]
      exact few_nm (es := [e]) rfl (by show (1 : Nat) ≤ 4000; omega) (one_nm h.1)
    · exact fw_ok (l + 1) h.2.2 (by omega) p hp
theorem fw_ok : ∀ {b : List Stm} (l : Nat), blkOk b → blkWd b ≤ 8000 → ∀ p ∈ preB l b, fewE p.1 ∧ nmOk p.1
  | [], l, _, _, p, hp => by simp [preB] at hp
  | s :: r, l, h, w, p, hp => by
    simp only [blkOk] at h
    simp only [blkWd] at w
    simp only [preB, List.mem_append] at hp
    rcases hp with hp | hp
    · exact fw_okS l h.1 (by omega) p hp
    · exact fw_ok l h.2 (by omega) p hp
end
theorem bg_drawn {b : List Stm} {n : Nat} (h : blkOk b) (w : blkWd b ≤ 5000) (hn : blkNst b ≤ n) : BG n 1700 b := by
  refine ⟨hn, by have := nB_wd b; omega, fun s hs => ?_, av_ok h⟩
  unfold allS at hs
  obtain ⟨p, hp, rfl⟩ := List.mem_map.mp hs
  exact fw_ok 0 h (by omega) p hp
structure PI (k : Nat) (p : Prt) : Prop where
  p0 : p.params ≠ []
  pl : p.params.length ≤ 3 + k
  pn : ∀ e ∈ p.params, PyData.strOk e = true
  b : BG 1 (1700 + 9 * k) p.body
structure TI (k : Nat) (t : Tree) : Prop where
  e0 : t.ends ≠ []
  el : t.ends.length ≤ 2500 + 3 * k
  en : ∀ e ∈ t.ends, PyData.strOk e = true
  pl : t.parts.length ≤ 2 + k
  p : ∀ p ∈ t.parts, PI k p
  b : BG (2 + 5 * k) (1700 + 9 * k) t.body
theorem PI.up {k : Nat} {p : Prt} (h : PI k p) : PI (k + 1) p := ⟨h.p0, by have := h.pl; omega, h.pn, h.b.le (Nat.le_refl _) (by omega)⟩
theorem TI.up {k : Nat} {t : Tree} (h : TI k t) : TI (k + 1) t := ⟨h.e0, by have := h.el; omega, h.en, by have := h.pl; omega, fun p hp => (h.p p hp).up, h.b.le (by omega) (by omega)⟩
theorem prtsWd_mem : ∀ {ps : List Prt} {p : Prt}, p ∈ ps → prtWd p ≤ prtsWd ps
  | [], p, h => by cases h
  | q :: r, p, h => by
    rcases List.mem_cons.mp h with rfl | h
    · show prtWd p ≤ prtWd p + prtsWd r
      omega
    · have := prtsWd_mem h
      show prtWd p ≤ prtWd q + prtsWd r
      omega
theorem ti_drawn {t : Tree} (h : TOk t) (w : t.wd ≤ 4876) (hn : blkNst t.body ≤ 2) : TI 0 t := by
  unfold Tree.wd at w
  refine ⟨h.e0, by omega, fun e he => nmS_ok (h.en e he), h.pl, fun p hp => ?_, (bg_drawn h.bo (by omega) hn).le (by omega) (by omega)⟩
  obtain ⟨_, h2, h3, h4, h5, h6⟩ := h.po p hp
  have := prtsWd_mem hp
  unfold prtWd at this
  exact ⟨h2, by omega, fun e he => nmS_ok (h3 e he), (bg_drawn h5 (by omega) h6).le (by omega) (by omega)⟩
/-- all that is asked of a tree -/
structure AllOk (t : Tree) : Prop where
  lo : LOk t
  ok : TreeOk t
  sm : Small t
  av : AvOk t
theorem few_all {b : List Stm} (h : ∀ s ∈ allS b, fewE s ∧ nmOk s) : fewB b := fun p hp => (h p.1 (List.mem_map.mpr ⟨p, hp, rfl⟩)).1
/-- the bounds at the end -/
structure TF (t : Tree) : Prop where
  el : t.ends.length ≤ 4000
  pl : t.parts.length ≤ 12
  p : ∀ p ∈ t.parts, p.params.length ≤ 4000 ∧ BG 1 4000 p.body
  b : BG 14 4000 t.body
theorem TF.all {t : Tree} (h : TF t) : AllOk t :=
  ⟨⟨h.el, h.pl, fun p hp => (h.p p hp).1, fun p hp => (h.p p hp).2.nst, h.b.nst, fun p hp => (h.p p hp).2.nb, h.b.nb, fun p hp => (h.p p hp).2.st, h.b.st⟩,
   ⟨h.el, h.pl, fun p hp => (h.p p hp).1, fun p hp => few_all (h.p p hp).2.st, few_all h.b.st, fun p hp => Nat.le_trans (h.p p hp).2.nb (by decide), Nat.le_trans h.b.nb (by decide)⟩,
   ⟨fun p hp => (h.p p hp).2.nb, h.b.nb⟩, ⟨fun p hp => (h.p p hp).2.av, h.b.av⟩⟩
theorem TI.tf {k : Nat} {t : Tree} (h : TI k t) (hk : k ≤ 2) : TF t :=
  ⟨by have := h.el; omega, by have := h.pl; omega, fun p hp => ⟨by have := (h.p p hp).pl; omega, (h.p p hp).b.le (by omega) (by omega)⟩, h.b.le (by omega) (by omega)⟩
end OS

set_option maxHeartbeats 4000000
/-! tuple * int where the int may be one. -/
namespace OS
open PySem PySem.Spec PyProof.Rows L2
theorem tuple_mul1 (l : Addr) (items : Array Value) (n : Nat) (dd : Option Addr) (sl : Array (Option Value)) (u : Tok) :
    Meets (Builtin.«tuple.__mul__» ⟨[.ref l, .int 1 u], []⟩) (fun _ R s => s.heap.get? l = some { cls := .type "tuple", dict := dd, data := .seq items n, slots := sl } ∧
      R (.ok (.ret (Value.ref l))) s) :=
  .of_wp fun prog w A R s h => by
    obtain ⟨hp, g, d, tk, os⟩ := s
    obtain ⟨hl, h⟩ := h
    have f1 := AutoSeq1.idx_int
    have c0 : (decide ((1 : Int) < -(2 ^ 63)) || decide ((1 : Int) ≥ 2 ^ 63)) = false := by decide
    have c1 : (items.isEmpty || (1 : Int) == 1) = true := by simp
    wp_walk using wpAny_loadPart' hl
    repeat (first
      | (refine wpAny_ite_false (decide_eq_false (by rw [c0]; exact Bool.false_ne_true)) ?_; wp_walk using wpAny_loadPart' hl)
      | (refine wpAny_ite_true (decide_eq_true (by rw [c1])) ?_; wp_walk using wpAny_loadPart' hl))
    exact ⟨_, rfl, h⟩
def rRepA (K : PySem.W.Frag) : R2 := fun x y H Q => ∃ l k xs, x = .ref l ∧ y = .int k ∧ SqT K H l xs ∧ xs ≠ [] ∧ 1 ≤ k ∧ k ≤ 1000 ∧ xs.length ≤ 1000 ∧ (k = 1 → Q (.ref l) H) ∧ (2 ≤ k → ∀ p, H p = none → Q (.ref p) (upd H p (.tup (List.replicate k.toNat xs).flatten)))
theorem op_repA {X : Cx} : OpR X (binaryOp .Mult) (rRepA X.K) := by
  intro pins s σ H x y v u Q I rx ry h
  obtain ⟨l, k, xs, rfl, rfl, hT, hne, h1, h2, hz, q1, q2⟩ := h
  by_cases c : k = 1
  · subst c
    cases rx
    obtain ⟨t, rfl⟩ := ry
    obtain ⟨its, r, ⟨⟨cls, dd, data, sl⟩, ho, hc, n, hd⟩, hs⟩ := I.tuple hT
    simp only at hc hd
    subst hc hd
    refine wpAny_binaryOp_repeat_ref (T := "tuple") (U := "int") (by decide) ⟨_, ho, rfl⟩ (fun s' => typeIs_int s' 1 t) noFill_tuple_mul F.fills_int_mul F.slot_int_rmul repeat_tuple F.slot_int_index.lookup
      (call_meets F.slot_int_rmul (typeIs_int s 1 t) F.entry_int_rmul (F.args_int_rmul_2 _ _) (int_rmul_tuple 1 t l its.toArray n dd sl)
        ⟨ho, rfl, ⟨_, ho, rfl⟩, call_meets F.slot_tuple_mul ⟨_, ho, rfl⟩ F.entry_tuple_mul (F.args_tuple_mul_2 _ _) (tuple_mul1 l its.toArray n dd sl t) ⟨ho, ?_⟩⟩)
    exact ⟨.ref l, H, I, rfl, q1 rfl⟩
  · exact op_repT pins s σ H _ _ v u Q I rx ry ⟨l, k, xs, rfl, rfl, hT, hne, by omega, h2, hz, q2 (by omega)⟩
end OS

set_option maxHeartbeats 4000000
/-! a tuple against the empty one -/
namespace OS
open PySem PySem.Spec PyProof.Rows L2
theorem tuple_ne0 (l b : Addr) (items : Array Value) (n n2 : Nat) (dd dd2 : Option Addr) (sl sl2 : Array (Option Value)) :
    Meets (Builtin.«tuple.__ne__» ⟨[.ref l, .ref b], []⟩) (fun _ R s => s.heap.get? l = some { cls := .type "tuple", dict := dd, data := .seq items n, slots := sl } ∧ s.heap.get? b = some { cls := .type "tuple", dict := dd2, data := .seq #[] n2, slots := sl2 } ∧
      R (.ok (.ret (Value.bool (!items.isEmpty)))) s) :=
  .of_wp fun prog w A R s h => by
    obtain ⟨hp, g, d, tk, os⟩ := s
    obtain ⟨hl, hb, h⟩ := h
    have f2 := AutoSeq1.sub_tuple_tuple
    have z : items.toList.zip (#[] : Array Value).toList = [] := by simp
    wp_walk using wpAny_loadPart' hl, wpAny_loadPart' hb, wpAny_forIn_list _ (fun rest b s' => b.1 = none ∧ s' = ⟨hp, g, d, tk, os⟩ ∧ rest = []) _
    case turn =>
      rintro ⟨y, x⟩ rest b s' ⟨_, _, e⟩
      cases e
    case fin =>
      rintro ⟨b1, b2⟩ s' ⟨hb', rfl, _⟩
      simp only at hb'
      subst hb'
      wp_walk
      refine ⟨_, rfl, ?_⟩
      have e : Builtin.Tuple.tupleCompareSizes CmpOp.NotEq items.size (#[] : Array Value).size = Value.bool (!items.isEmpty) := by
        have e2 : (items.size != 0) = !items.isEmpty := by
          unfold Array.isEmpty
          by_cases c : items.size = 0
          · rw [c]; rfl
          · rw [bne_iff_ne.mpr c, decide_eq_false c]; rfl
        rw [← e2]
        rfl
      rw [e]
      exact h
    case h => exact ⟨rfl, rfl, z⟩
def rNe0 (K : PySem.W.Frag) : R2 := fun x y H Q => ∃ a b xs, x = .ref a ∧ y = .ref b ∧ SqT K H a xs ∧ SqT K H b [] ∧ Q (.bl (!xs.isEmpty)) H
theorem op_neTN {X : Cx} (hu : X.A.units + 64 < cLine) : OpR X (compareOp .NotEq) (rNe0 X.K) := by
  intro pins s σ H x y v u Q I rx ry h
  obtain ⟨a, b, xs, rfl, rfl, ha, hb, q⟩ := h
  cases rx
  cases ry
  obtain ⟨its, r1, ⟨⟨cls, dd, data, sl⟩, ho, hc, n, hd⟩, _⟩ := I.tuple ha
  obtain ⟨its2, r2, ⟨⟨cls2, dd2, data2, sl2⟩, ho2, hc2, n2, hd2⟩, _⟩ := I.tuple hb
  cases r2
  simp only at hc hd hc2 hd2
  subst hc hd hc2 hd2
  refine richCompare_meets_room (op := .NotEq) ⟨_, ho, rfl⟩ ⟨_, ho2, rfl⟩ PySem.F.slot_tuple_ne PySem.F.entry_tuple_ne (PySem.F.args_tuple_ne_2 _ _) (tuple_ne0 _ _ its.toArray n n2 dd dd2 sl sl2)
    ⟨ho, ho2, (fun x => nomatch x), .bl (!xs.isEmpty), H, I, ?_, q⟩ (by omega)
  have : its.toArray.isEmpty = xs.isEmpty := by
    cases r1 <;> rfl
  rw [this]
  exact rfl
end OS

namespace OS
open PySem PySem.Spec PyProof.Rows L2
/-! ### the law's own: a tree is spoilt -/
structure SpS (K : PySem.W.Frag) (H0 H : Hp) (d c ep pp : Addr) (bv : V) (t : Tree) : Prop where
  T : Tape H d c
  k : Kept d H0 H
  e : H ep = some (.tup (t.ends.map V.str))
  p : ∃ us, H pp = some (.tup us) ∧ AtL K H (t.parts.map Prt.dt) us
  b : At K H (blkDt t.body) bv
theorem SpS.next {K : PySem.W.Frag} {H0 H H' : Hp} {d c ep pp : Addr} {bv : V} {t : Tree} (s : SpS K H0 H d c ep pp bv t) (T' : Tape H' d c) (k : Kept d H H') : SpS K H0 H' d c ep pp bv t := by
  have r := s.T.rws k
  obtain ⟨us, h1, h2⟩ := s.p
  exact ⟨T', s.k.trans k, r.1 _ _ s.e, ⟨us, r.1 _ _ h1, AtL.rws r h2⟩, At.rws r s.b⟩
theorem SpS.same {K : PySem.W.Frag} {H0 H H' : Hp} {d c ep pp : Addr} {bv : V} {t : Tree} (s : SpS K H0 H d c ep pp bv t) (k : Same H H') : SpS K H0 H' d c ep pp bv t := s.next (s.T.keep k) (Kept.of k)
theorem cat_any {K : PySem.W.Frag} {H : Hp} {a b : Addr} {xs ys : List V} {Q : VK} (ha : H a = some (.tup xs)) (hb : H b = some (.tup ys)) (hz : xs.length + ys.length ≤ 100000) (q : ∀ p H', Same H H' → H' p = some (.tup (xs ++ ys)) → Q (.ref p) H') : rCatA K (.ref a) (.ref b) H Q := by
  refine ⟨a, b, xs, ys, rfl, rfl, SqT.of ha, SqT.of hb, sz6 hz, fun e => q b H (fun _ _ z => z) ?_, fun _ e => q a H (fun _ _ z => z) ?_, fun _ _ p hp => q p _ (same_upd hp) upd_same⟩
  · rw [e, List.nil_append]; exact hb
  · rw [e, List.append_nil]; exact ha
theorem rep_any {K : PySem.W.Frag} {H : Hp} {a : Addr} {x : V} {k : Nat} {Q : VK} (ha : H a = some (.tup [x])) (h1 : 1 ≤ k) (h2 : k ≤ 1000) (q : ∀ p H', Same H H' → H' p = some (.tup (List.replicate k x)) → Q (.ref p) H') : rRepA K (.ref a) (.int (k : Nat)) H Q := by
  have e : ∀ n : Nat, (List.replicate n [x]).flatten = List.replicate n x := fun n => by
    induction n with
    | zero => rfl
    | succ n ih => rw [List.replicate_succ, List.flatten_cons, ih]; rfl
  refine ⟨a, _, [x], rfl, rfl, SqT.of ha, by simp, by omega, by omega, by show 1 ≤ 1000; omega, fun e1 => q a H (fun _ _ z => z) ?_, fun _ p hp => q p _ (same_upd hp) ?_⟩
  · have : k = 1 := by omega
    rw [this]
    exact ha
  · rw [upd_same, Int.toNat_natCast, e]
/-- a statement more -/
theorem blk_add {K : PySem.W.Frag} {H : Hp} {bv : V} {tp : Addr} {b : List Stm} {s : Stm} {v : V} {Q : VK} (hb : At K H (blkDt b) bv) (ht : H tp = some (.tup [v])) (hs : At K H s.dt v) (n : b.length ≤ 9000) (q : ∀ p H', Same H H' → At K H' (blkDt (b ++ [s])) (.ref p) → Q (.ref p) H') : rCatA K bv (.ref tp) H Q := by
  unfold blkDt At at hb
  obtain ⟨bp, us, rfl, hbp, hl⟩ := hb
  have lu := hl.length
  rw [blkDts_len] at lu
  refine cat_any hbp ht (by rw [lu]; show b.length + 1 ≤ 100000; omega) fun p H' s1 hp => q p H' s1 ?_
  unfold blkDt At
  rw [blkDts_snoc]
  refine ⟨p, _, rfl, hp, AtL.app (AtL.keep s1 hl) ?_⟩
  simp only [AtL]
  exact ⟨_, _, rfl, At.keep s1 hs, rfl⟩
theorem len_nB : ∀ b : List Stm, b.length ≤ nB b
  | [] => by simp
  | s :: r => by
    have := len_nB r
    have h1 : 1 ≤ nS s := by cases s <;> simp only [nS] <;> omega
    simp only [List.length_cons, nB]
    omega
theorem sl_takeV {K : PySem.W.Frag} {H : Hp} {a : Addr} {xs : List V} {j : Nat} {Q : VK} (h : H a = some (.tup xs)) (q : ∀ p H', Same H H' → H' p = some (.tup (xs.take j)) → Q (.ref p) H') : rSlA K (.ref a) none (some (j : Int)) H Q := by
  have e0 : HT.sIx xs.length 0 none = 0 := rfl
  have e1 : HT.sIx xs.length xs.length (some (j : Int)) = min j xs.length := by rw [HT.sIx_nat]
  refine ⟨a, _, rfl, SqT.of h, fun e => q a H (fun _ _ z => z) ?_, fun _ p hp => q p _ (same_upd hp) ?_⟩
  · rw [e1] at e
    rw [List.take_of_length_le (by have := e.2; omega)]
    exact h
  · rw [upd_same]
    show some (HO.tup ((xs.drop (HT.sIx xs.length 0 none)).take (HT.sIx xs.length xs.length (some (j : Int)) - HT.sIx xs.length 0 none))) = _
    rw [e0, e1, List.drop_zero, Nat.sub_zero]
    by_cases c : j ≤ xs.length
    · rw [Nat.min_eq_left c]
    · rw [Nat.min_eq_right (by omega), List.take_of_length_le (Nat.le_refl _), List.take_of_length_le (by omega)]
theorem sl_drop1 {K : PySem.W.Frag} {H : Hp} {a : Addr} {x : V} {xs : List V} {Q : VK} (h : H a = some (.tup (x :: xs))) (q : ∀ p H', Same H H' → H' p = some (.tup xs) → Q (.ref p) H') : rSlA K (.ref a) (some 1) none H Q := by
  have e0 : HT.sIx (x :: xs).length 0 (some (1 : Int)) = 1 := by
    rw [show (1 : Int) = ((1 : Nat) : Int) from rfl, HT.sIx_nat, List.length_cons]
    omega
  refine ⟨a, _, rfl, SqT.of h, fun e => absurd e.1 (by rw [e0]; decide), fun _ p hp => q p _ (same_upd hp) ?_⟩
  rw [upd_same]
  show some (HO.tup (((x :: xs).drop (HT.sIx (x :: xs).length 0 (some (1 : Int)))).take (HT.sIx (x :: xs).length (x :: xs).length none - HT.sIx (x :: xs).length 0 (some (1 : Int))))) = _
  rw [e0]
  show some (HO.tup (xs.take ((x :: xs).length - 1))) = _
  rw [List.length_cons, Nat.add_sub_cancel, List.take_length]
theorem prt_mk {K : PySem.W.Frag} {H : Hp} {a q : Addr} {bv : V} {p : Prt} (h1 : H a = some (.tup [.str p.name, .ref q, bv])) (h2 : H q = some (.tup (p.params.map V.str))) (h3 : At K H (blkDt p.body) bv) : At K H p.dt (.ref a) := by
  have an := names_at h2 (K := K)
  unfold Prt.dt
  rw [At]
  refine ⟨a, _, rfl, h1, ?_⟩
  simp only [AtL]
  exact ⟨_, _, rfl, by unfold At; rfl, _, _, rfl, an, _, _, rfl, h3, rfl⟩
theorem call_mk {K : PySem.W.Frag} {H : Hp} {a q : Addr} {n : Str} {es : List Str} (h1 : H a = some (.tup [.str "call", .str n, .ref q])) (h2 : H q = some (.tup (es.map V.str))) : At K H (Stm.call n es).dt (.ref a) := by
  have an := names_at h2 (K := K)
  unfold Stm.dt
  rw [At]
  refine ⟨a, _, rfl, h1, ?_⟩
  simp only [AtL]
  exact ⟨_, _, rfl, by unfold At; rfl, _, _, rfl, by unfold At; rfl, _, _, rfl, an, rfl⟩
theorem atI_lst {α : Type} {xs : List α} {n : Nat} {v : α} (e : xs.length = n + 1) (h : xs[n]? = some v) : atI xs (-1) = some v := by
  have hi := (List.getElem?_eq_some_iff.mp h).2
  have : xs = xs.take n ++ [v] := by
    conv => lhs; rw [← List.take_append_drop n xs]
    congr 1
    · rw [List.drop_eq_getElem_cons (by omega), hi, List.drop_of_length_le (by omega)]
  rw [this]
  exact atI_last _ _
section
variable {P : Program} {w : World} {K : PySem.W.Frag} {mg : Str → Option Value} {base : Heap}
def spSpoil (K : PySem.W.Frag) : Sp := fun vs H Q _ => ∃ (d c : Addr) (v : V) (k : Nat) (t : Tree), vs = [.ref d, v] ∧ Tape H d c ∧ At K H t.dt v ∧ TI k t ∧ k ≤ 5 ∧ ∀ v' t' H', TI (k + 1) t' → At K H' t'.dt v' → Tape H' d c → Kept d H H' → Q v' H'
def InvS (K : PySem.W.Frag) (H0 : Hp) (d c tp : Addr) (ch : Int) (k : Nat) (j : Nat) : L2.St → Hp → Prop := fun σ H => ∃ (t : Tree) (ep pp : Addr) (bv : V) (y6 : Option V), σ = [some (.ref d), some (.ref tp), some (.ref ep), some (.ref pp), some bv, some (.int ch), y6, none] ∧ SpS K H0 H d c ep pp bv t ∧ TI (k + 1) t ∧ ((j : Int) ≤ ch → TI k t)
theorem ok_law_spoilt {f : Addr} {fd : FuncData} (F : Fun K "_law_spoilt" "_law_spoilt" s__law_spoilt f fd) (T : Txt K mg) {f__law_take : Addr} {d__law_take : FuncData} (c__law_take : Cal P w K mg base 1 "_law_take" ["tape", "many"] spTake f__law_take d__law_take) : FnOk P w K mg base CX0 2 f fd ["tape", "tree"] (spSpoil K) := by
  refine F.ok sc__law_spoilt (fun vs H Q E h => ?_) (fun cdv A outer s H vs Q E hr h => ?_)
  · obtain ⟨d, c, v, k, t, rfl, _⟩ := h
    rfl
  · obtain ⟨d, c, v, n, t, rfl, hT, hat, ti, hn, k⟩ := h
    have hu := hu_of hr
    unfold Tree.dt At at hat
    obtain ⟨tp, vs, rfl, htp, hl⟩ := hat
    simp only [AtL] at hl
    obtain ⟨v0, _, rfl, h0, v1, _, rfl, h1, v2, _, rfl, hb, rfl⟩ := hl
    obtain ⟨ep, rfl, hep⟩ := names_of h0
    unfold At at h1
    obtain ⟨pp, us, rfl, hpp, hA⟩ := h1
    refine ⟨_, (pss_cons (ps_asg (pv 1) (pg_tup (by rfl) (pgs_cons (pg_name (i := 2) sc__law_spoilt.nd rfl (.inl rfl)) (pgs_cons (pg_name (i := 3) sc__law_spoilt.nd rfl (.inl rfl)) (pgs_cons (pg_name (i := 4) sc__law_spoilt.nd rfl (.inl rfl)) pgs_nil)))))
      (pss_cons (ps_set (i := 5) sc__law_spoilt.nd rfl (.inl rfl) (pe_call c__law_take.G (hr.mono (by decide)) (by rfl) c__law_take.m c__law_take.k c__law_take.b .nil pass0 (pa_cons (pv 0) (pa_cons pe_int pa_nil))))
      (Evl.pss_cut (ps_if (pt_cmpR op_eq (pv 5) pe_int (nomark _)) (pss_one (ps_set (i := 2) sc__law_spoilt.nd rfl (.inl rfl) (pe_op op_catA (pv 2) (pe_ix ix_list (pe_lst (pa_cons (pe_tup (pa_cons pe_str (pa_cons pe_str (pa_cons pe_str pa_nil)))) (pa_cons (pe_tup (pa_cons pe_str pa_nil)) (pa_cons (pe_tup (pa_cons pe_str (pa_cons pe_str pa_nil))) pa_nil)))) (pe_call c__law_take.G (hr.mono (by decide)) (by rfl) c__law_take.m c__law_take.k c__law_take.b .nil pass0 (pa_cons (pv 0) (pa_cons pe_int pa_nil))) (fun _ _ => rfl))))) pss_nil)
      (Evl.pss_cut (ps_if (PW.pt (pw_and (pt_cmpR op_eq (pv 5) pe_int (nomark _)) (pw_and1 (pt_cmpR (op_neTN hr.units) (pv 3) (pe_tup pa_nil) (nomark _))))) (pss_one (ps_set (i := 3) sc__law_spoilt.nd rfl (.inl rfl) (pe_op op_catA (pv 3) (pe_tup (pa_cons (pe_ix ix_tup (pv 3) pe_int (fun _ _ => rfl)) pa_nil))))) pss_nil)
      (Evl.pss_cut (ps_if (PW.pt (pw_and (pt_cmpR op_eq (pv 5) pe_int (nomark _)) (pw_and1 (pt_cmpR (op_neTN hr.units) (pv 3) (pe_tup pa_nil) (nomark _))))) (pss_one (ps_set (i := 3) sc__law_spoilt.nd rfl (.inl rfl) (pe_op op_catA (pe_tup (pa_cons (pe_tup (pa_cons (pe_ix ix_tup (pe_ix ix_tup (pv 3) pe_int (fun _ _ => rfl)) pe_int (fun _ _ => rfl)) (pa_cons (pe_op op_catA (pe_ix ix_tup (pe_ix ix_tup (pv 3) pe_int (fun _ _ => rfl)) pe_int (fun _ _ => rfl)) (pe_slice sl_tupA (pe_ix ix_tup (pe_ix ix_tup (pv 3) pe_int (fun _ _ => rfl)) pe_int (fun _ _ => rfl)) po_none (po_some pe_int))) (pa_cons (pe_ix ix_tup (pe_ix ix_tup (pv 3) pe_int (fun _ _ => rfl)) pe_int (fun _ _ => rfl)) pa_nil)))) pa_nil)) (pe_slice sl_tupA (pv 3) (po_some pe_int) po_none)))) pss_nil)
      (Evl.pss_cut (ps_if (pt_cmpR op_eq (pv 5) pe_int (nomark _)) (pss_one (ps_set (i := 4) sc__law_spoilt.nd rfl (.inl rfl) (pe_op op_catA (pv 4) (pe_tup (pa_cons (pe_tup (pa_cons pe_str (pa_cons (pe_op op_add_str pe_str (pe_callTy call_str_int (by rfl) T.str (by decide +kernel) (pa_cons (pe_call c__law_take.G (hr.mono (by decide)) (by rfl) c__law_take.m c__law_take.k c__law_take.b .nil pass0 (pa_cons (pv 0) (pa_cons pe_int pa_nil))) pa_nil))) (pa_cons (pe_slice sl_tupA (pv 2) po_none (po_some (pe_op op_add pe_int (pe_call c__law_take.G (hr.mono (by decide)) (by rfl) c__law_take.m c__law_take.k c__law_take.b .nil pass0 (pa_cons (pv 0) (pa_cons pe_int pa_nil)))))) pa_nil)))) pa_nil))))) pss_nil)
      (Evl.pss_cut (ps_if (PW.pt (pw_and (pt_cmpR op_eq (pv 5) pe_int (nomark _)) (pw_and1 (pt_cmpR (op_neTN hr.units) (pv 3) (pe_tup pa_nil) (nomark _))))) (pss_one (ps_set (i := 4) sc__law_spoilt.nd rfl (.inl rfl) (pe_op op_catA (pv 4) (pe_tup (pa_cons (pe_tup (pa_cons pe_str (pa_cons (pe_ix ix_tup (pe_ix ix_tup (pv 3) pe_int (fun _ _ => rfl)) pe_int (fun _ _ => rfl)) (pa_cons (pe_op op_repA (pe_tup (pa_cons (pe_ix ix_tup (pv 2) pe_int (fun _ _ => rfl)) pa_nil)) (pe_callB call_len_seq (by rfl) T.len PySem.boot_len (pa_cons (pe_ix ix_tup (pe_ix ix_tup (pv 3) pe_int (fun _ _ => rfl)) pe_int (fun _ _ => rfl)) pa_nil))) pa_nil)))) pa_nil))))) pss_nil)
      (Evl.pss_cut (ps_if (pt_cmpR op_eq (pv 5) pe_int (nomark _)) (pss_one (ps_set (i := 4) sc__law_spoilt.nd rfl (.inl rfl) (pe_op op_catA (pv 4) (pe_tup (pa_cons (pe_tup (pa_cons pe_str (pa_cons (pe_ix ix_tup (pv 2) pe_int (fun _ _ => rfl)) (pa_cons (pe_tup (pa_cons pe_str (pa_cons pe_int pa_nil))) (pa_cons (pe_tup (pa_cons (pe_tup (pa_cons pe_str (pa_cons pe_str (pa_cons pe_str pa_nil)))) pa_nil)) (pa_cons (pe_tup pa_nil) pa_nil)))))) pa_nil))))) pss_nil)
      (Evl.pss_cut (ps_if (pt_cmpR op_eq (pv 5) pe_int (nomark _)) (pss_one (ps_set (i := 4) sc__law_spoilt.nd rfl (.inl rfl) (pe_op op_catA (pv 4) (pe_tup (pa_cons (pe_tup (pa_cons pe_str (pa_cons (pe_ix ix_tup (pv 2) pe_int (fun _ _ => rfl)) (pa_cons (pe_ix ix_list (pe_lst (pa_cons (pe_ix ix_tup (pv 2) pe_int (fun _ _ => rfl)) (pa_cons pe_str pa_nil))) (pe_call c__law_take.G (hr.mono (by decide)) (by rfl) c__law_take.m c__law_take.k c__law_take.b .nil pass0 (pa_cons (pv 0) (pa_cons pe_int pa_nil))) (fun _ _ => rfl)) (pa_cons pe_str (pa_cons (pe_tup (pa_cons pe_str (pa_cons pe_int pa_nil))) (pa_cons pe_str pa_nil))))))) pa_nil))))) pss_nil)
      (Evl.pss_cut (ps_if (PW.pt (pw_and (pt_cmpR op_eq (pv 5) pe_int (nomark _)) (pw_and1 (pt_cmpR (op_neTN hr.units) (pv 3) (pe_tup pa_nil) (nomark _))))) (pss_cons (ps_set (i := 6) sc__law_spoilt.nd rfl (.inl rfl) (pe_tup (pa_cons pe_str (pa_cons (pe_ix ix_tup (pe_ix ix_tup (pv 3) (pe_un un_neg pe_int) (fun _ _ => rfl)) pe_int (fun _ _ => rfl)) (pa_cons (pe_op op_repA (pe_slice sl_tupA (pe_ix ix_tup (pe_ix ix_tup (pv 3) pe_int (fun _ _ => rfl)) pe_int (fun _ _ => rfl)) po_none (po_some pe_int)) (pe_callB call_len_seq (by rfl) T.len PySem.boot_len (pa_cons (pe_ix ix_tup (pe_ix ix_tup (pv 3) (pe_un un_neg pe_int) (fun _ _ => rfl)) pe_int (fun _ _ => rfl)) pa_nil))) pa_nil)))))
      (pss_one (ps_set (i := 3) sc__law_spoilt.nd rfl (.inl rfl) (pe_op op_catA (pe_tup (pa_cons (pe_tup (pa_cons (pe_ix ix_tup (pe_ix ix_tup (pv 3) pe_int (fun _ _ => rfl)) pe_int (fun _ _ => rfl)) (pa_cons (pe_ix ix_tup (pe_ix ix_tup (pv 3) pe_int (fun _ _ => rfl)) pe_int (fun _ _ => rfl)) (pa_cons (pe_op op_catA (pe_ix ix_tup (pe_ix ix_tup (pv 3) pe_int (fun _ _ => rfl)) pe_int (fun _ _ => rfl)) (pe_tup (pa_cons (pv 6) pa_nil))) pa_nil)))) pa_nil)) (pe_slice sl_tupA (pv 3) (po_some pe_int) po_none))))) pss_nil)
      (Evl.pss_cut (ps_if (pt_cmpR op_gt (pv 5) pe_int (nomark _)) (pss_one (ps_for PassesOwn.never rfl (pi_range1 (by rfl) T.range (pa_cons (pe_op op_add (pe_op op_sub (pv 5) pe_int) (pe_call c__law_take.G (hr.mono (by decide)) (by rfl) c__law_take.m c__law_take.k c__law_take.b .nil pass0 (pa_cons (pv 0) (pa_cons pe_int pa_nil)))) pa_nil)) (pg_name (i := 7) sc__law_spoilt.nd rfl (.inl rfl)) (pss_one (ps_set (i := 4) sc__law_spoilt.nd rfl (.inl rfl) (pe_tup (pa_cons (pe_tup (pa_cons pe_str (pa_cons (pe_ix ix_tup (pv 2) pe_int (fun _ _ => rfl)) (pa_cons (pe_tup (pa_cons pe_str (pa_cons pe_int pa_nil))) (pa_cons (pv 4) pa_nil))))) pa_nil)))))) pss_nil)
      (pss_one (ps_ret (pe_tup (pa_cons (pv 2) (pa_cons (pv 3) (pa_cons (pv 4) pa_nil))))))))))))))))), ?_⟩
    refine ⟨_, rfl, tp, _, rfl, SqT.of htp, rfl, _, _, rfl, _, _, rfl, _, _, rfl, rfl, ?_⟩
    refine ⟨_, rfl, d, c, 11, rfl, hT, by decide, by decide, fun ch H1 r0 r1 T1 O1 => ?_⟩
    have S1 : SpS K H H1 d c ep pp v2 t := SpS.next (H0 := H) (H := H) ⟨hT, .refl, hep, ⟨us, hpp, hA⟩, hb⟩ T1 O1.kept
    clear hT hep hpp hA hb T1 O1 h0
    -- 0
    refine ⟨InvS K H d c tp ch n 1, ?_, ?_⟩
    · refine ⟨_, rfl, rfl, _, rfl, ?_⟩
      refine ite2 (fun c0 => ?_) (fun c0 => ?_)
      · have e0 : ch = 0 := V.int.inj (of_decide_eq_true c0)
        refine ⟨_, rfl, by show 3 ≤ sizeLine; decide, fun t1 n1 => ?_⟩
        refine ⟨by show 1 ≤ sizeLine; decide, fun t2 n2 => ?_⟩
        refine ⟨by show 2 ≤ sizeLine; decide, fun t3 n3 => ?_⟩
        refine ⟨by show 3 ≤ sizeLine; decide, fun l1 nl1 => ?_⟩
        have s1 := same_upd (o := .tup [V.str "e", .str "f", .str "g"]) n1
        have s2 := same_upd (o := .tup [V.str "a"]) n2
        have s3 := same_upd (o := .tup [V.str "e", .str "f"]) n3
        have s4 := same_upd (o := .lst [V.ref t1, .ref t2, .ref t3]) nl1
        have h1 := s4 _ _ (s3 _ _ (s2 _ _ (upd_same (H := H1) (a := t1) (o := .tup [V.str "e", .str "f", .str "g"]))))
        have h2 := s4 _ _ (s3 _ _ (upd_same (H := (upd H1 t1 (.tup [V.str "e", .str "f", .str "g"]))) (a := t2) (o := .tup [V.str "a"])))
        have h3 := s4 _ _ (upd_same (H := (upd (upd H1 t1 (.tup [V.str "e", .str "f", .str "g"])) t2 (.tup [V.str "a"]))) (a := t3) (o := .tup [V.str "e", .str "f"]))
        have hl := upd_same (H := upd (upd (upd H1 t1 (.tup [V.str "e", .str "f", .str "g"])) t2 (.tup [V.str "a"])) t3 (.tup [V.str "e", .str "f"])) (a := l1) (o := .lst [V.ref t1, .ref t2, .ref t3])
        have S2 := S1.same (((s1.trans s2).trans s3).trans s4)
        refine ⟨_, rfl, d, c, 3, rfl, S2.T, by decide, by decide, fun r H2 q0 q1 T2 O2 => ?_⟩
        have S3 := S2.next T2 O2.kept
        have rw2 := S2.T.rws O2.kept
        have h1 := rw2.1 _ _ h1
        have h2 := rw2.1 _ _ h2
        have h3 := rw2.1 _ _ h3
        have hl := rw2.2 _ _ hl
        obtain ⟨x, hx, e⟩ := pick_of (xs := [V.ref t1, .ref t2, .ref t3]) q0 q1
        refine ⟨l1, _, _, _, rfl, rfl, SqL.of hl, e, ?_⟩
        obtain ⟨q, es, rfl, hq, le, oe⟩ : ∃ (q : Addr) (es : List Str), x = .ref q ∧ H2 q = some (.tup (es.map V.str)) ∧ es.length ≤ 3 ∧ ∀ e ∈ es, PyData.strOk e = true := by
          simp only [List.mem_cons, List.not_mem_nil, or_false] at hx
          rcases hx with rfl | rfl | rfl
          · exact ⟨_, ["e", "f", "g"], rfl, h1, by decide, by decide +kernel⟩
          · exact ⟨_, ["a"], rfl, h2, by decide, by decide +kernel⟩
          · exact ⟨_, ["e", "f"], rfl, h3, by decide, by decide +kernel⟩
        have le0 := ti.el
        refine cat_any S3.e hq (by rw [List.length_map, List.length_map]; omega) fun p H3 s5 hp => ?_
        have S4 := S3.same s5
        refine ⟨⟨t.ends ++ es, t.parts, t.body⟩, p, pp, v2, none, rfl, ⟨S4.T, S4.k, by rw [hp, List.map_append], S4.p, S4.b⟩, ⟨fun z => ti.e0 (List.append_eq_nil_iff.mp z).1, ?_, fun z hz => (List.mem_append.mp hz).elim (ti.en z) (oe z), ti.up.pl, ti.up.p, ti.up.b⟩, fun z => by omega⟩
        show (t.ends ++ es).length ≤ 2500 + 3 * (n + 1)
        rw [List.length_append]
        omega
      · exact ⟨t, ep, pp, v2, none, rfl, S1, ti.up, fun _ => ti⟩
    clear S1
    have pne : ∀ {ep pp : Addr} {bv : V} {t : Tree} {H' : Hp}, SpS K H H' d c ep pp bv t → ∃ us, H' pp = some (.tup us) ∧ AtL K H' (t.parts.map Prt.dt) us ∧ us.length = t.parts.length ∧ ((!us.isEmpty) = true → ∃ p0 pr a q bv, t.parts = p0 :: pr ∧ us = .ref a :: us.tail ∧ AtL K H' (pr.map Prt.dt) us.tail ∧ H' a = some (.tup [.str p0.name, .ref q, bv]) ∧ H' q = some (.tup (p0.params.map V.str)) ∧ At K H' (blkDt p0.body) bv) := fun {ep pp bv t H'} S => by
      obtain ⟨us, h1, h2⟩ := S.p
      have l := h2.length
      rw [List.length_map] at l
      refine ⟨us, h1, h2, l, fun ne => ?_⟩
      generalize t.parts = ps at h2 l
      cases ps with
      | nil =>
        rw [List.length_nil] at l
        rw [List.length_eq_zero_iff.mp l] at ne
        cases ne
      | cons p0 pr =>
        simp only [List.map_cons, AtL] at h2
        obtain ⟨v, r, rfl, h3, h4⟩ := h2
        obtain ⟨a, q, bv, rfl, ha, hq, hb⟩ := part_at h3
        exact ⟨p0, pr, a, q, bv, rfl, rfl, h4, ha, hq, hb⟩
    rintro σ H2 ⟨t2, ep2, pp2, bv2, y6, rfl, S2, ti2, up2⟩
    -- 1
    refine ⟨InvS K H d c tp ch n 2, ?_, ?_⟩
    · refine ⟨_, rfl, rfl, _, rfl, ?_⟩
      refine ite2 (fun c1 => ?_) (fun c1 => ?_)
      · have e1 : ch = 1 := V.int.inj (of_decide_eq_true c1)
        have tn := up2 (by omega)
        refine ⟨_, rfl, Nat.zero_le _, fun t1 n1 => ?_⟩
        have S3 := S2.same (same_upd (o := .tup []) n1)
        obtain ⟨us2, hpp2, hA2, lu, fst⟩ := pne S3
        refine ⟨pp2, t1, us2, rfl, rfl, SqT.of hpp2, SqT.of upd_same, _, rfl, ?_⟩
        refine ite2 (fun c2 => ?_) (fun c2 => ?_)
        · obtain ⟨p0, pr, a, q, bv, ep0, eus, hpr, ha, hq, hb⟩ := fst c2
          refine ⟨_, rfl, _, rfl, pp2, _, _, _, rfl, rfl, SqT.of hpp2, (show atI us2 ((0 : Nat) : Int) = some (.ref a) from atI_nat (by rw [eus]; rfl)), by show 1 ≤ sizeLine; decide, fun t3 n3 => ?_⟩
          have s3 := same_upd (o := .tup [V.ref a]) n3
          refine cat_any (s3 _ _ hpp2) upd_same (by rw [lu]; have := tn.pl; show t2.parts.length + 1 ≤ 100000; omega) fun p H3 s4 hp => ?_
          have s34 := s3.trans s4
          have S4 := S3.same s34
          refine ⟨⟨t2.ends, t2.parts ++ [p0], t2.body⟩, ep2, p, bv2, y6, rfl, ⟨S4.T, S4.k, S4.e, ⟨_, hp, ?_⟩, S4.b⟩, ⟨ti2.e0, ti2.el, ti2.en, ?_, fun x hx => ?_, ti2.b⟩, fun z => by omega⟩
          · show AtL K H3 ((t2.parts ++ [p0]).map Prt.dt) (us2 ++ [.ref a])
            rw [List.map_append]
            refine AtL.app (AtL.keep s34 hA2) ?_
            simp only [List.map_cons, List.map_nil, AtL]
            exact ⟨_, _, rfl, prt_mk (s34 _ _ ha) (s34 _ _ hq) (At.keep s34 hb), rfl⟩
          · have := tn.pl
            show (t2.parts ++ [p0]).length ≤ 2 + (n + 1)
            rw [List.length_append]
            show t2.parts.length + 1 ≤ 2 + (n + 1)
            omega
          · rcases List.mem_append.mp hx with hx | hx
            · exact ti2.p x hx
            · rw [List.mem_singleton.mp hx]
              exact ti2.p p0 (by rw [ep0]; exact List.mem_cons_self)
        · exact ⟨t2, ep2, pp2, bv2, y6, rfl, S3, ti2, fun z => by omega⟩
      · exact ⟨t2, ep2, pp2, bv2, y6, rfl, S2, ti2, fun z => up2 (by omega)⟩
    clear S2 ti2 up2
    rintro σ H2 ⟨t2, ep2, pp2, bv2, y6, rfl, S2, ti2, up2⟩
    -- 2
    refine ⟨InvS K H d c tp ch n 3, ?_, ?_⟩
    · refine ⟨_, rfl, rfl, _, rfl, ?_⟩
      refine ite2 (fun c1 => ?_) (fun c1 => ?_)
      · have e1 : ch = 2 := V.int.inj (of_decide_eq_true c1)
        have tn := up2 (by omega)
        refine ⟨_, rfl, Nat.zero_le _, fun t1 n1 => ?_⟩
        have S3 := S2.same (same_upd (o := .tup []) n1)
        obtain ⟨us2, hpp2, hA2, lu, fst⟩ := pne S3
        refine ⟨pp2, t1, us2, rfl, rfl, SqT.of hpp2, SqT.of upd_same, _, rfl, ?_⟩
        refine ite2 (fun c2 => ?_) (fun c2 => ?_)
        · obtain ⟨p0, pr, a, q, bv, ep0, eus, hpr, ha, hq, hb⟩ := fst c2
          have p0m : p0 ∈ t2.parts := by rw [ep0]; exact List.mem_cons_self
          obtain ⟨i0, i1, i2, i3⟩ := tn.p p0 p0m
          have ix : atI us2 ((0 : Nat) : Int) = some (.ref a) := atI_nat (by rw [eus]; rfl)
          refine ⟨_, rfl, pp2, _, _, _, rfl, rfl, SqT.of hpp2, ix, a, _, _, _, rfl, rfl, SqT.of ha, atI_nat (j := 0) rfl, ?_⟩
          refine ⟨_, rfl, pp2, _, _, _, rfl, rfl, SqT.of hpp2, ix, a, _, _, _, rfl, rfl, SqT.of ha, atI_nat (j := 1) rfl, ?_⟩
          refine ⟨_, rfl, pp2, _, _, _, rfl, rfl, SqT.of hpp2, ix, a, _, _, _, rfl, rfl, SqT.of ha, atI_nat (j := 1) rfl, ?_⟩
          refine ⟨_, rfl, ?_⟩
          show rSlA K (.ref q) none (some ((1 : Nat) : Int)) _ _
          refine sl_takeV hq fun q1 H3 s3 hq1 => ?_
          refine cat_any (s3 _ _ hq) hq1 (by rw [List.length_take, List.length_map]; omega) fun q2 H4 s4 hq2 => ?_
          have s34 := s3.trans s4
          refine ⟨_, rfl, pp2, _, _, _, rfl, rfl, SqT.of (s34 _ _ hpp2), ix, a, _, _, _, rfl, rfl, SqT.of (s34 _ _ ha), atI_nat (j := 2) rfl, ?_⟩
          refine ⟨by show 3 ≤ sizeLine; decide, fun a5 n5 => ⟨by show 1 ≤ sizeLine; decide, fun a6 n6 => ?_⟩⟩
          have s5 := same_upd (o := .tup [V.str p0.name, .ref q2, bv]) n5
          have s6 := same_upd (o := .tup [V.ref a5]) n6
          have s36 := (s34.trans s5).trans s6
          have h5 := s6 _ _ (upd_same (H := H4) (a := a5) (o := .tup [V.str p0.name, .ref q2, bv]))
          rw [eus] at hpp2
          refine ⟨_, rfl, _, rfl, ?_⟩
          delta tNoPart
          show rSlA K (.ref pp2) (some 1) none _ _
          refine sl_drop1 (s36 _ _ hpp2) fun a7 H7 s7 h7 => ?_
          refine cat_any (s7 _ _ upd_same) h7 ?_ fun a8 H8 s8 h8 => ?_
          · have := tn.pl
            rw [List.length_tail, lu]
            show 1 + (t2.parts.length - 1) ≤ 100000
            omega
          have s78 := s7.trans s8
          have s38 := s36.trans s78
          have S8 := S3.same s38
          refine ⟨⟨t2.ends, ⟨p0.name, p0.params ++ p0.params.take 1, p0.body⟩ :: pr, t2.body⟩, ep2, a8, bv2, y6, rfl, ⟨S8.T, S8.k, S8.e, ⟨_, h8, ?_⟩, S8.b⟩, ⟨ti2.e0, ti2.el, ti2.en, ?_, fun x hx => ?_, ti2.b⟩, fun z => by omega⟩
          · show AtL K H8 ((⟨p0.name, p0.params ++ p0.params.take 1, p0.body⟩ :: pr : List Prt).map Prt.dt) (V.ref a5 :: us2.tail)
            simp only [List.map_cons, AtL]
            refine ⟨_, _, rfl, prt_mk (q := q2) (bv := bv) (s78 _ _ h5) ?_ (At.keep s38 hb), AtL.keep s38 hpr⟩
            rw [(s6.trans s78) _ _ (s5 _ _ hq2)]
            show some (HO.tup (p0.params.map V.str ++ (p0.params.map V.str).take 1)) = some (HO.tup ((p0.params ++ p0.params.take 1).map V.str))
            rw [List.map_append, List.map_take]
          · have := ti2.pl
            rw [ep0] at this
            exact this
          · rcases List.mem_cons.mp hx with rfl | hx
            · refine ⟨fun z => i0 (List.append_eq_nil_iff.mp z).1, ?_, fun e he => ?_, i3.le (Nat.le_refl _) (by omega)⟩
              · show (p0.params ++ p0.params.take 1).length ≤ 3 + (n + 1)
                rw [List.length_append, List.length_take]
                omega
              · exact (List.mem_append.mp he).elim (i2 e) fun z => i2 e (List.mem_of_mem_take z)
            · exact ti2.p x (by rw [ep0]; exact List.mem_cons_of_mem _ hx)
        · exact ⟨t2, ep2, pp2, bv2, y6, rfl, S3, ti2, fun z => by omega⟩
      · exact ⟨t2, ep2, pp2, bv2, y6, rfl, S2, ti2, fun z => up2 (by omega)⟩
    clear S2 ti2 up2
    rintro σ H2 ⟨t2, ep2, pp2, bv2, y6, rfl, S2, ti2, up2⟩
    have bodyL : ∀ {t : Tree} {k : Nat}, TI k t → k ≤ 6 → t.body.length ≤ 9000 := fun {t k} h hk => by
      have h1 := len_nB t.body
      have h2 := h.b.nb
      omega
    -- 3
    refine ⟨InvS K H d c tp ch n 4, ?_, ?_⟩
    · refine ⟨_, rfl, rfl, _, rfl, ?_⟩
      refine ite2 (fun c1 => ?_) (fun c1 => ?_)
      · have e1 : ch = 3 := V.int.inj (of_decide_eq_true c1)
        have tn := up2 (by omega)
        refine ⟨_, rfl, _, rfl, d, c, 4, rfl, S2.T, by decide, by decide, fun r H3 q0 q1 T3 O3 => ?_⟩
        have S3 := S2.next T3 O3.kept
        have ks : r = 0 ∨ r = 1 ∨ r = 2 ∨ r = 3 := by omega
        have lp : (Str.ofString "p").length + (Str.ofString (toString r)).length ≤ 1000 ∧ r.natAbs.log2 < 1920 := by
          rcases ks with rfl | rfl | rfl | rfl <;> decide +kernel
        refine ⟨_, rfl, lp.2, _, _, rfl, rfl, sz6 (Nat.le_trans lp.1 (by decide)), ?_⟩
        generalize Str.ofString "p" ++ Str.ofString (toString r) = nm
        refine ⟨_, rfl, ?_⟩
        refine ⟨_, rfl, d, c, 2, rfl, S3.T, by decide, by decide, fun r2 H4 q2 q3 T4 O4 => ?_⟩
        obtain ⟨j, rfl⟩ := Int.eq_ofNat_of_zero_le q2
        have S4 := S3.next T4 O4.kept
        refine ⟨_, _, rfl, rfl, _, rfl, ?_⟩
        show rSlA K (.ref ep2) none (some ((1 : Int) + (j : Int))) H4 _
        rw [show (1 : Int) + (j : Int) = ((1 + j : Nat) : Int) by omega]
        refine sl_takeV S4.e fun q5 H5 s5 hq5 => ?_
        refine ⟨by show 3 ≤ sizeLine; decide, fun a6 n6 => ⟨by show 1 ≤ sizeLine; decide, fun a7 n7 => ?_⟩⟩
        have s6 := same_upd (o := .tup [V.str "call", V.str nm, .ref q5]) n6
        have s7 := same_upd (o := .tup [V.ref a6]) n7
        have s57 := (s5.trans s6).trans s7
        have S7 := S4.same s57
        have hst := upd_same (H := H5) (a := a6) (o := .tup [V.str "call", V.str nm, .ref q5])
        have el := ti2.el
        refine blk_add (K := K) (s := Stm.call nm (t2.ends.take (1 + j))) S7.b upd_same (At.keep s7 (call_mk hst ?_)) (bodyL tn (by omega)) fun p H8 s8 hp => ?_
        · rw [s6 _ _ hq5, List.map_take]
        have S8 := S7.same s8
        refine ⟨⟨t2.ends, t2.parts, t2.body ++ [Stm.call nm (t2.ends.take (1 + j))]⟩, ep2, pp2, _, y6, rfl, ⟨S8.T, S8.k, S8.e, S8.p, hp⟩, ⟨ti2.e0, ti2.el, ti2.en, ti2.pl, ti2.p, ?_⟩, fun z => by omega⟩
        refine ((tn.b.le (Nat.le_refl _) (Nat.le_refl _)).app ((bg_call (p := nm) (es := t2.ends.take (1 + j)) (by rw [List.length_take]; omega) fun e he => ti2.en e (List.mem_of_mem_take he)).le (Nat.zero_le _) (Nat.le_refl _))).le (by omega) (by omega)
      · exact ⟨t2, ep2, pp2, bv2, y6, rfl, S2, ti2, fun z => up2 (by omega)⟩
    clear S2 ti2 up2
    rintro σ H2 ⟨t2, ep2, pp2, bv2, y6, rfl, S2, ti2, up2⟩
    have fstE : ∀ {t : Tree} {k : Nat}, TI k t → ∃ e0, (t.ends.map V.str)[0]? = some (.str e0) ∧ PyData.strOk e0 = true := fun {t k} h => by
      have h0 := h.e0
      have h1 := h.en
      cases he : t.ends with
      | nil => exact absurd he h0
      | cons x r => exact ⟨x, rfl, h1 x (by rw [he]; exact List.mem_cons_self)⟩
    -- 4
    refine ⟨InvS K H d c tp ch n 5, ?_, ?_⟩
    · refine ⟨_, rfl, rfl, _, rfl, ?_⟩
      refine ite2 (fun c1 => ?_) (fun c1 => ?_)
      · have e1 : ch = 4 := V.int.inj (of_decide_eq_true c1)
        have tn := up2 (by omega)
        refine ⟨_, rfl, Nat.zero_le _, fun t1 n1 => ?_⟩
        have S3 := S2.same (same_upd (o := .tup []) n1)
        obtain ⟨us2, hpp2, hA2, lu, fst⟩ := pne S3
        refine ⟨pp2, t1, us2, rfl, rfl, SqT.of hpp2, SqT.of upd_same, _, rfl, ?_⟩
        refine ite2 (fun c2 => ?_) (fun c2 => ?_)
        · obtain ⟨p0, pr, a, q, bv, ep0, eus, hpr, ha, hq, hb⟩ := fst c2
          have p0m : p0 ∈ t2.parts := by rw [ep0]; exact List.mem_cons_self
          obtain ⟨i0, i1, i2, i3⟩ := tn.p p0 p0m
          have ix : atI us2 ((0 : Nat) : Int) = some (.ref a) := atI_nat (by rw [eus]; rfl)
          obtain ⟨e0, he0, oe0⟩ := fstE ti2
          refine ⟨_, rfl, _, rfl, pp2, _, _, _, rfl, rfl, SqT.of hpp2, ix, a, _, _, _, rfl, rfl, SqT.of ha, atI_nat (j := 0) rfl, ?_⟩
          refine ⟨_, rfl, ep2, _, _, _, rfl, rfl, SqT.of S3.e, (show atI (t2.ends.map V.str) ((0 : Nat) : Int) = some (.str e0) from atI_nat he0), by show 1 ≤ sizeLine; decide, fun a4 n4 => ?_⟩
          have s4 := same_upd (o := .tup [V.str e0]) n4
          refine ⟨_, rfl, pp2, _, _, _, rfl, rfl, SqT.of (s4 _ _ hpp2), ix, a, _, _, _, rfl, rfl, SqT.of (s4 _ _ ha), atI_nat (j := 1) rfl, ?_⟩
          refine ⟨q, _, rfl, .inr (SqT.of (s4 _ _ hq)), ?_⟩
          rw [List.length_map]
          have pl0 : 1 ≤ p0.params.length := List.length_pos_iff.mpr i0
          refine rep_any upd_same pl0 (by omega) fun q5 H5 s5 hq5 => ?_
          refine ⟨by show 3 ≤ sizeLine; decide, fun a6 n6 => ⟨by show 1 ≤ sizeLine; decide, fun a7 n7 => ?_⟩⟩
          have s6 := same_upd (o := .tup [V.str "call", V.str p0.name, .ref q5]) n6
          have s7 := same_upd (o := .tup [V.ref a6]) n7
          have s47 := ((s4.trans s5).trans s6).trans s7
          have S7 := S3.same s47
          have hst := upd_same (H := H5) (a := a6) (o := .tup [V.str "call", V.str p0.name, .ref q5])
          refine blk_add (K := K) (s := Stm.call p0.name (List.replicate p0.params.length e0)) S7.b upd_same (At.keep s7 (call_mk hst ?_)) (bodyL tn (by omega)) fun p H8 s8 hp => ?_
          · rw [s6 _ _ hq5, List.map_replicate]
          have S8 := S7.same s8
          refine ⟨⟨t2.ends, t2.parts, t2.body ++ [Stm.call p0.name (List.replicate p0.params.length e0)]⟩, ep2, pp2, _, y6, rfl, ⟨S8.T, S8.k, S8.e, S8.p, hp⟩, ⟨ti2.e0, ti2.el, ti2.en, ti2.pl, ti2.p, ?_⟩, fun z => by omega⟩
          exact ((tn.b.le (Nat.le_refl _) (Nat.le_refl _)).app ((bg_call (p := p0.name) (es := List.replicate p0.params.length e0) (by rw [List.length_replicate]; omega) fun e he => by rw [(List.mem_replicate.mp he).2]; exact oe0).le (Nat.zero_le _) (Nat.le_refl _))).le (by omega) (by omega)
        · exact ⟨t2, ep2, pp2, bv2, y6, rfl, S3, ti2, fun z => by omega⟩
      · exact ⟨t2, ep2, pp2, bv2, y6, rfl, S2, ti2, fun z => up2 (by omega)⟩
    clear S2 ti2 up2
    rintro σ H2 ⟨t2, ep2, pp2, bv2, y6, rfl, S2, ti2, up2⟩
    -- 5
    refine ⟨InvS K H d c tp ch n 6, ?_, ?_⟩
    · refine ⟨_, rfl, rfl, _, rfl, ?_⟩
      refine ite2 (fun c1 => ?_) (fun c1 => ?_)
      · have e1 : ch = 5 := V.int.inj (of_decide_eq_true c1)
        have tn := up2 (by omega)
        obtain ⟨e0, he0, oe0⟩ := fstE ti2
        refine ⟨_, rfl, _, rfl, ep2, _, _, _, rfl, rfl, SqT.of S2.e, (show atI (t2.ends.map V.str) ((0 : Nat) : Int) = some (.str e0) from atI_nat he0), by show 2 ≤ sizeLine; decide, fun a1 n1 => ?_⟩
        refine ⟨by show 3 ≤ sizeLine; decide, fun a2 n2 => ⟨by show 1 ≤ sizeLine; decide, fun a3 n3 => ⟨Nat.zero_le _, fun a4 n4 => ⟨by show 5 ≤ sizeLine; decide, fun a5 n5 => ⟨by show 1 ≤ sizeLine; decide, fun a6 n6 => ?_⟩⟩⟩⟩⟩
        have s1 := same_upd (o := .tup [V.str "number", .int 1]) n1
        have h1 := upd_same (H := H2) (a := a1) (o := .tup [V.str "number", .int 1])
        generalize upd H2 a1 (.tup [V.str "number", .int 1]) = H3 at s1 h1 n2 n3 n4 n5 n6 ⊢
        have s2 := same_upd (o := .tup [V.str "ask", .str "q", .str "n"]) n2
        have h2 := upd_same (H := H3) (a := a2) (o := .tup [V.str "ask", .str "q", .str "n"])
        generalize upd H3 a2 (.tup [V.str "ask", .str "q", .str "n"]) = H4 at s2 h2 n3 n4 n5 n6 ⊢
        have s3 := same_upd (o := .tup [V.ref a2]) n3
        have h3 := upd_same (H := H4) (a := a3) (o := .tup [V.ref a2])
        generalize upd H4 a3 (.tup [V.ref a2]) = H5 at s3 h3 n4 n5 n6 ⊢
        have s4 := same_upd (o := .tup []) n4
        have h4 := upd_same (H := H5) (a := a4) (o := .tup [])
        generalize upd H5 a4 (.tup []) = H6 at s4 h4 n5 n6 ⊢
        have s5 := same_upd (o := .tup [V.str "if", .str e0, .ref a1, .ref a3, .ref a4]) n5
        have h5 := upd_same (H := H6) (a := a5) (o := .tup [V.str "if", .str e0, .ref a1, .ref a3, .ref a4])
        generalize upd H6 a5 (.tup [V.str "if", .str e0, .ref a1, .ref a3, .ref a4]) = H7 at s5 h5 n6 ⊢
        have s6 := same_upd (o := .tup [V.ref a5]) n6
        have h6 := upd_same (H := H7) (a := a6) (o := .tup [V.ref a5])
        generalize upd H7 a6 (.tup [V.ref a5]) = H8 at s6 h6 ⊢
        have s46 := (s4.trans s5).trans s6
        have s26 := (s2.trans s3).trans s46
        have S7 := S2.same (s1.trans s26)
        have hst : At K H8 (Stm.ite e0 (.num 1) [.ask "q" "n"] []).dt (.ref a5) := by
          unfold Stm.dt
          rw [At]
          refine ⟨a5, _, rfl, s6 _ _ h5, ?_⟩
          simp only [AtL]
          refine ⟨_, _, rfl, by unfold At; rfl, _, _, rfl, by unfold At; rfl, _, _, rfl, num_dt (s26 _ _ h1), _, _, rfl, ?_, _, _, rfl, ?_, rfl⟩
          · rw [At]
            refine ⟨a3, _, rfl, s46 _ _ h3, ?_⟩
            simp only [blkDts, AtL]
            refine ⟨_, _, rfl, ?_, rfl⟩
            unfold Stm.dt
            rw [At]
            refine ⟨a2, _, rfl, (s3.trans s46) _ _ h2, ?_⟩
            simp only [AtL]
            exact ⟨_, _, rfl, by unfold At; rfl, _, _, rfl, by unfold At; rfl, _, _, rfl, by unfold At; rfl, rfl⟩
          · rw [At]
            exact ⟨a4, _, rfl, (s5.trans s6) _ _ h4, by simp only [blkDts, AtL]⟩
        refine blk_add (K := K) (s := Stm.ite e0 (.num 1) [.ask "q" "n"] []) S7.b h6 hst (bodyL tn (by omega)) fun p H9 s8 hp => ?_
        have S8 := S7.same s8
        refine ⟨⟨t2.ends, t2.parts, t2.body ++ [Stm.ite e0 (.num 1) [.ask "q" "n"] []]⟩, ep2, pp2, _, y6, rfl, ⟨S8.T, S8.k, S8.e, S8.p, hp⟩, ⟨ti2.e0, ti2.el, ti2.en, ti2.pl, ti2.p, ?_⟩, fun z => by omega⟩
        exact (tn.b.app ((bg_ite (m := 1) (k := 0) oe0 (vsm_num 1) (bg_ask (x := "n") (show PyData.strOk "q" = true by decide +kernel)) .nil).le (n' := 2 + 5 * n) (m' := 2) (by omega) (by omega))).le (by omega) (by omega)
      · exact ⟨t2, ep2, pp2, bv2, y6, rfl, S2, ti2, fun z => up2 (by omega)⟩
    clear S2 ti2 up2
    rintro σ H2 ⟨t2, ep2, pp2, bv2, y6, rfl, S2, ti2, up2⟩
    -- 6
    refine ⟨InvS K H d c tp ch n 7, ?_, ?_⟩
    · refine ⟨_, rfl, rfl, _, rfl, ?_⟩
      refine ite2 (fun c1 => ?_) (fun c1 => ?_)
      · have e1 : ch = 6 := V.int.inj (of_decide_eq_true c1)
        have tn := up2 (by omega)
        obtain ⟨e0, he0, oe0⟩ := fstE ti2
        have ix0 : atI (t2.ends.map V.str) ((0 : Nat) : Int) = some (.str e0) := atI_nat he0
        refine ⟨_, rfl, _, rfl, ep2, _, _, _, rfl, rfl, SqT.of S2.e, ix0, ?_⟩
        refine ⟨_, rfl, ep2, _, _, _, rfl, rfl, SqT.of S2.e, ix0, by show 2 ≤ sizeLine; decide, fun l1 nl1 => ?_⟩
        have s1 := same_upd (o := .lst [V.str e0, .str "q"]) nl1
        have hl := upd_same (H := H2) (a := l1) (o := .lst [V.str e0, .str "q"])
        have S3 := S2.same s1
        refine ⟨_, rfl, d, c, 2, rfl, S3.T, by decide, by decide, fun r H3 q0 q1 T3 O3 => ?_⟩
        have S4 := S3.next T3 O3.kept
        have hl := (S3.T.rws O3.kept).2 _ _ hl
        obtain ⟨x, hx, e⟩ := pick_of (xs := [V.str e0, .str "q"]) q0 q1
        refine ⟨l1, _, _, _, rfl, rfl, SqL.of hl, e, ?_⟩
        obtain ⟨q, rfl, oq⟩ : ∃ q : Str, x = .str q ∧ PyData.strOk q = true := by
          simp only [List.mem_cons, List.not_mem_nil, or_false] at hx
          rcases hx with rfl | rfl
          · exact ⟨_, rfl, oe0⟩
          · exact ⟨_, rfl, by decide +kernel⟩
        refine ⟨by show 2 ≤ sizeLine; decide, fun a1 n1 => ⟨by show 6 ≤ sizeLine; decide, fun a5 n5 => ⟨by show 1 ≤ sizeLine; decide, fun a6 n6 => ?_⟩⟩⟩
        have s1 := same_upd (o := .tup [V.str "number", .int 1]) n1
        have h1 := upd_same (H := H3) (a := a1) (o := .tup [V.str "number", .int 1])
        generalize upd H3 a1 (.tup [V.str "number", .int 1]) = H6 at s1 h1 n5 n6 ⊢
        have s5 := same_upd (o := .tup [V.str "message", .str e0, .str q, .str "go", .ref a1, .str "n"]) n5
        have h5 := upd_same (H := H6) (a := a5) (o := .tup [V.str "message", .str e0, .str q, .str "go", .ref a1, .str "n"])
        generalize upd H6 a5 (.tup [V.str "message", .str e0, .str q, .str "go", .ref a1, .str "n"]) = H7 at s5 h5 n6 ⊢
        have s6 := same_upd (o := .tup [V.ref a5]) n6
        have h6 := upd_same (H := H7) (a := a6) (o := .tup [V.ref a5])
        generalize upd H7 a6 (.tup [V.ref a5]) = H8 at s6 h6 ⊢
        have S7 := S4.same (s1.trans (s5.trans s6))
        have hst : At K H8 (Stm.msg e0 q "go" (.num 1) "n").dt (.ref a5) := by
          unfold Stm.dt
          rw [At]
          refine ⟨a5, _, rfl, s6 _ _ h5, ?_⟩
          simp only [AtL]
          exact ⟨_, _, rfl, by unfold At; rfl, _, _, rfl, by unfold At; rfl, _, _, rfl, by unfold At; rfl, _, _, rfl, by unfold At; rfl, _, _, rfl, num_dt ((s5.trans s6) _ _ h1), _, _, rfl, by unfold At; rfl, rfl⟩
        refine blk_add (K := K) (s := Stm.msg e0 q "go" (.num 1) "n") S7.b h6 hst (bodyL tn (by omega)) fun p H9 s8 hp => ?_
        have S8 := S7.same s8
        refine ⟨⟨t2.ends, t2.parts, t2.body ++ [Stm.msg e0 q "go" (.num 1) "n"]⟩, ep2, pp2, _, y6, rfl, ⟨S8.T, S8.k, S8.e, S8.p, hp⟩, ⟨ti2.e0, ti2.el, ti2.en, ti2.pl, ti2.p, ?_⟩, fun z => by omega⟩
        exact (tn.b.app ((bg_msg (l := "go") (x := "n") oe0 oq (vsm_num 1)).le (n' := 2 + 5 * n) (m' := 2) (by omega) (by omega))).le (by omega) (by omega)
      · exact ⟨t2, ep2, pp2, bv2, y6, rfl, S2, ti2, fun z => up2 (by omega)⟩
    clear S2 ti2 up2
    rintro σ H2 ⟨t2, ep2, pp2, bv2, y6, rfl, S2, ti2, up2⟩
    -- 7
    refine ⟨InvS K H d c tp ch n 8, ?_, ?_⟩
    · refine ⟨_, rfl, rfl, _, rfl, ?_⟩
      refine ite2 (fun c1 => ?_) (fun c1 => ?_)
      · have e1 : ch = 7 := V.int.inj (of_decide_eq_true c1)
        have tn := up2 (by omega)
        refine ⟨_, rfl, Nat.zero_le _, fun t1 n1 => ?_⟩
        have S3 := S2.same (same_upd (o := .tup []) n1)
        obtain ⟨us2, hpp2, hA2, lu, fst⟩ := pne S3
        refine ⟨pp2, t1, us2, rfl, rfl, SqT.of hpp2, SqT.of upd_same, _, rfl, ?_⟩
        refine ite2 (fun c2 => ?_) (fun c2 => ?_)
        · obtain ⟨p0, pr, a, q, bv, ep0, eus, hpr, ha, hq, hb⟩ := fst c2
          have p0m : p0 ∈ t2.parts := by rw [ep0]; exact List.mem_cons_self
          obtain ⟨i0, i1, i2, i3⟩ := tn.p p0 p0m
          have ix : atI us2 ((0 : Nat) : Int) = some (.ref a) := atI_nat (by rw [eus]; rfl)
          obtain ⟨nn, hnn⟩ : ∃ nn, t2.parts.length = nn + 1 := ⟨pr.length, by rw [ep0]; rfl⟩
          have hnl : nn < t2.parts.length := by omega
          obtain ⟨vl, e1l, e2l⟩ := hA2.get (i := nn) (d := t2.parts[nn].dt) (by rw [List.getElem?_map, List.getElem?_eq_getElem hnl]; rfl)
          have plm := List.getElem_mem hnl
          generalize t2.parts[nn] = pl at e2l plm
          obtain ⟨al, ql, bl, rfl, hal, hql, _⟩ := part_at e2l
          have ixl : atI us2 (-1) = some (.ref al) := atI_lst (by rw [lu]; exact hnn) e1l
          obtain ⟨j0, j1, j2, j3⟩ := tn.p pl plm
          refine ⟨_, rfl, _, rfl, pp2, _, _, _, rfl, rfl, SqT.of hpp2, ixl, al, _, _, _, rfl, rfl, SqT.of hal, atI_nat (j := 0) rfl, ?_⟩
          refine ⟨_, rfl, pp2, _, _, _, rfl, rfl, SqT.of hpp2, ix, a, _, _, _, rfl, rfl, SqT.of ha, atI_nat (j := 1) rfl, ?_⟩
          refine ⟨_, rfl, ?_⟩
          show rSlA K (.ref q) none (some ((1 : Nat) : Int)) _ _
          refine sl_takeV hq fun q1 H3 s3 hq1 => ?_
          obtain ⟨x0, hx0, ex0⟩ : ∃ x0, (p0.params.map V.str).take 1 = [V.str x0] ∧ PyData.strOk x0 = true := by
            cases he : p0.params with
            | nil => exact absurd he i0
            | cons x r => exact ⟨x, rfl, i2 x (by rw [he]; exact List.mem_cons_self)⟩
          rw [hx0] at hq1
          refine ⟨_, rfl, _, rfl, pp2, _, _, _, rfl, rfl, SqT.of (s3 _ _ hpp2), ixl, al, _, _, _, rfl, rfl, SqT.of (s3 _ _ hal), atI_nat (j := 1) rfl, ?_⟩
          refine ⟨ql, _, rfl, .inr (SqT.of (s3 _ _ hql)), ?_⟩
          rw [List.length_map]
          have pl0 : 1 ≤ pl.params.length := List.length_pos_iff.mpr j0
          refine rep_any hq1 pl0 (by omega) fun q4 H4 s4 hq4 => ?_
          refine ⟨by show 3 ≤ sizeLine; decide, fun ow now => ?_⟩
          have s5 := same_upd (o := .tup [V.str "call", V.str pl.name, .ref q4]) now
          have s35 := (s3.trans s4).trans s5
          have how : At K (upd H4 ow (.tup [V.str "call", V.str pl.name, .ref q4])) (Stm.call pl.name (List.replicate pl.params.length x0)).dt (.ref ow) := call_mk upd_same (by rw [s5 _ _ hq4, List.map_replicate])
          generalize upd H4 ow (.tup [V.str "call", V.str pl.name, .ref q4]) = H5 at s5 s35 how
          have hpp5 := s35 _ _ hpp2
          have ha5 := s35 _ _ ha
          refine ⟨_, rfl, pp2, _, _, _, rfl, rfl, SqT.of hpp5, ix, a, _, _, _, rfl, rfl, SqT.of ha5, atI_nat (j := 0) rfl, ?_⟩
          refine ⟨_, rfl, pp2, _, _, _, rfl, rfl, SqT.of hpp5, ix, a, _, _, _, rfl, rfl, SqT.of ha5, atI_nat (j := 1) rfl, ?_⟩
          refine ⟨_, rfl, pp2, _, _, _, rfl, rfl, SqT.of hpp5, ix, a, _, _, _, rfl, rfl, SqT.of ha5, atI_nat (j := 2) rfl, ?_⟩
          refine ⟨_, rfl, by show 1 ≤ sizeLine; decide, fun a6 n6 => ?_⟩
          have s6 := same_upd (o := .tup [V.ref ow]) n6
          have bl0 : p0.body.length ≤ 9000 := by
            have h1 := len_nB p0.body
            have h2 := i3.nb
            omega
          refine blk_add (K := K) (s := Stm.call pl.name (List.replicate pl.params.length x0)) (At.keep (s35.trans s6) hb) upd_same (At.keep s6 how) bl0 fun b7 H7 s7 hb7 => ?_
          refine ⟨by show 3 ≤ sizeLine; decide, fun a8 n8 => ⟨by show 1 ≤ sizeLine; decide, fun a9 n9 => ?_⟩⟩
          have s8 := same_upd (o := .tup [V.str p0.name, .ref q, .ref b7]) n8
          have s9 := same_upd (o := .tup [V.ref a8]) n9
          have h8 := s9 _ _ (upd_same (H := H7) (a := a8) (o := .tup [V.str p0.name, .ref q, .ref b7]))
          have s39 := (((s35.trans s6).trans s7).trans s8).trans s9
          rw [eus] at hpp2
          refine ⟨_, rfl, _, rfl, ?_⟩
          delta tNoPart
          show rSlA K (.ref pp2) (some 1) none _ _
          refine sl_drop1 (s39 _ _ hpp2) fun a10 H10 s10 h10 => ?_
          refine cat_any (s10 _ _ upd_same) h10 ?_ fun a11 H11 s11 h11 => ?_
          · have := tn.pl
            rw [List.length_tail, lu]
            show 1 + (t2.parts.length - 1) ≤ 100000
            omega
          have s10b := s10.trans s11
          have sA := s39.trans s10b
          have SA := S3.same sA
          refine ⟨⟨t2.ends, ⟨p0.name, p0.params, p0.body ++ [Stm.call pl.name (List.replicate pl.params.length x0)]⟩ :: pr, t2.body⟩, ep2, a11, bv2, some (.ref ow), rfl, ⟨SA.T, SA.k, SA.e, ⟨_, h11, ?_⟩, SA.b⟩, ⟨ti2.e0, ti2.el, ti2.en, ?_, fun x hx => ?_, ti2.b⟩, fun z => by omega⟩
          · show AtL K H11 ((⟨p0.name, p0.params, p0.body ++ [Stm.call pl.name (List.replicate pl.params.length x0)]⟩ :: pr : List Prt).map Prt.dt) (V.ref a8 :: us2.tail)
            simp only [List.map_cons, AtL]
            exact ⟨_, _, rfl, prt_mk (q := q) (bv := .ref b7) (s10b _ _ h8) (sA _ _ hq) (At.keep ((s8.trans s9).trans s10b) hb7), AtL.keep sA hpr⟩
          · have := ti2.pl
            rw [ep0] at this
            exact this
          · rcases List.mem_cons.mp hx with rfl | hx
            · refine ⟨i0, by show p0.params.length ≤ 3 + (n + 1); omega, i2, ?_⟩
              exact (i3.app ((bg_call (p := pl.name) (es := List.replicate pl.params.length x0) (by rw [List.length_replicate]; omega) fun e he => by rw [(List.mem_replicate.mp he).2]; exact ex0).le (Nat.zero_le _) (Nat.le_refl _))).le (by omega) (by omega)
            · exact ti2.p x (by rw [ep0]; exact List.mem_cons_of_mem _ hx)
        · exact ⟨t2, ep2, pp2, bv2, y6, rfl, S3, ti2, fun z => by omega⟩
      · exact ⟨t2, ep2, pp2, bv2, y6, rfl, S2, ti2, fun z => up2 (by omega)⟩
    clear S2 ti2 up2
    rintro σ H2 ⟨t2, ep2, pp2, bv2, y6, rfl, S2, ti2, up2⟩
    -- loops
    refine ⟨fun σ H' => ∃ (t : Tree) (ep pp : Addr) (bv : V) (y6 y7 : Option V), σ = [some (.ref d), some (.ref tp), some (.ref ep), some (.ref pp), some bv, some (.int ch), y6, y7] ∧ SpS K H H' d c ep pp bv t ∧ TI (n + 1) t, ?_, ?_⟩
    · refine ⟨_, rfl, _, _, rfl, rfl, _, rfl, ?_⟩
      refine ite2 (fun c1 => ?_) (fun c1 => ?_)
      · have e1 : 7 < ch := of_decide_eq_true c1
        have tn := up2 (by omega)
        refine ⟨_, rfl, _, _, rfl, rfl, _, rfl, d, c, 3, rfl, S2.T, by decide, by decide, fun r H3 q0 q1 T3 O3 => ?_⟩
        have S3 := S2.next T3 O3.kept
        obtain ⟨m, hm⟩ := Int.eq_ofNat_of_zero_le (show 0 ≤ ch - 7 + r by omega)
        refine ⟨_, _, rfl, rfl, _, rfl, ?_⟩
        refine ⟨by omega, by omega, ?_⟩
        rw [show (ch - 7 + r).toNat = m by omega]
        refine for_range (n := m) (fun i σ H' => ∃ (b : List Stm) (bv : V) (y7 : Option V), σ = [some (.ref d), some (.ref tp), some (.ref ep2), some (.ref pp2), some bv, some (.int ch), y6, y7] ∧ SpS K H H' d c ep2 pp2 bv ⟨t2.ends, t2.parts, b⟩ ∧ BG (2 + 5 * n + i) (1700 + 9 * n + i) b) ⟨t2.body, bv2, none, rfl, S3, tn.b⟩ ?_ ?_
        · rintro i σ H4 hi ⟨b, bv, y7, rfl, S4, g⟩
          obtain ⟨e0, he0, oe0⟩ := fstE ti2
          have ix0 : atI (t2.ends.map V.str) ((0 : Nat) : Int) = some (.str e0) := atI_nat he0
          refine ⟨_, rfl, ep2, _, _, _, rfl, rfl, SqT.of S4.e, ix0, by show 2 ≤ sizeLine; decide, fun a1 n1 => ?_⟩
          refine ⟨_, rfl, by show 4 ≤ sizeLine; decide, fun a2 n2 => ⟨by show 1 ≤ sizeLine; decide, fun a3 n3 => ?_⟩⟩
          have s1 := same_upd (o := .tup [V.str "number", .int 0]) n1
          have h1 := upd_same (H := H4) (a := a1) (o := .tup [V.str "number", .int 0])
          generalize upd H4 a1 (.tup [V.str "number", .int 0]) = H5 at s1 h1 n2 n3 ⊢
          have s2 := same_upd (o := .tup [V.str "while", .str e0, .ref a1, bv]) n2
          have h2 := upd_same (H := H5) (a := a2) (o := .tup [V.str "while", .str e0, .ref a1, bv])
          generalize upd H5 a2 (.tup [V.str "while", .str e0, .ref a1, bv]) = H6 at s2 h2 n3 ⊢
          have s3 := same_upd (o := .tup [V.ref a2]) n3
          have h3 := upd_same (H := H6) (a := a3) (o := .tup [V.ref a2])
          generalize upd H6 a3 (.tup [V.ref a2]) = H7 at s3 h3 ⊢
          have S7 := S4.same ((s1.trans s2).trans s3)
          refine ⟨[.whl e0 (.num 0) b], _, _, rfl, ⟨S7.T, S7.k, S7.e, S7.p, ?_⟩, (bg_whl oe0 (vsm_num 0) g).le (by omega) (by omega)⟩
          have hb := S7.b
          unfold blkDt at hb
          unfold blkDt
          rw [At]
          refine ⟨a3, _, rfl, h3, ?_⟩
          simp only [blkDts, AtL]
          refine ⟨_, _, rfl, ?_, rfl⟩
          unfold Stm.dt
          rw [At]
          refine ⟨a2, _, rfl, s3 _ _ h2, ?_⟩
          simp only [AtL]
          exact ⟨_, _, rfl, by unfold At; rfl, _, _, rfl, by unfold At; rfl, _, _, rfl, num_dt ((s2.trans s3) _ _ h1), _, _, rfl, hb, rfl⟩
        · rintro σ H4 ⟨b, bv, y7, rfl, S4, g⟩
          exact ⟨⟨t2.ends, t2.parts, b⟩, ep2, pp2, bv, y6, y7, rfl, S4, ti2.e0, ti2.el, ti2.en, ti2.pl, ti2.p, g.le (by omega) (by omega)⟩
      · exact ⟨t2, ep2, pp2, bv2, y6, none, rfl, S2, ti2⟩
    clear S2 ti2 up2
    rintro σ H2 ⟨t2, ep2, pp2, bv2, y6, y7, rfl, S2, ti2⟩
    obtain ⟨us2, hpp2, hA2⟩ := S2.p
    refine ⟨_, rfl, _, rfl, _, rfl, by show 3 ≤ sizeLine; decide, fun a1 n1 => ?_⟩
    have S3 := S2.same (same_upd (o := .tup [.ref ep2, .ref pp2, bv2]) n1)
    refine k (.ref a1) t2 _ ti2 ?_ S3.T S3.k
    obtain ⟨us3, hpp3, hA3⟩ := S3.p
    have an := names_at S3.e (K := K)
    unfold Tree.dt
    rw [At]
    refine ⟨a1, _, rfl, upd_same, ?_⟩
    simp only [AtL]
    refine ⟨_, _, rfl, an, _, _, rfl, ?_, _, _, rfl, S3.b, rfl⟩
    rw [At]
    exact ⟨pp2, _, rfl, hpp3, hA3⟩
end
end OS

namespace OS
open PySem PySem.Spec PyProof.Rows L2
/-! ### the law's own: a long tree -/
section
variable {P : Program} {w : World} {K : PySem.W.Frag} {mg : Str → Option Value} {base : Heap}
def spLong (K : PySem.W.Frag) : Sp := fun vs H Q _ => ∃ (d c : Addr) (v : V) (t : Tree), vs = [.ref d, v] ∧ Tape H d c ∧ At K H t.dt v ∧ TI 2 t ∧ ∀ v' t' H', TF t' → At K H' t'.dt v' → Tape H' d c → Kept d H H' → Q v' H'
theorem rep_at {K : PySem.W.Frag} {H : Hp} {s : Stm} {v : V} (h : At K H s.dt v) : ∀ n : Nat, AtL K H (blkDts (List.replicate n s)) (List.replicate n v)
  | 0 => by simp [blkDts, AtL]
  | n + 1 => by
    simp only [List.replicate_succ, blkDts, AtL]
    exact ⟨_, _, rfl, h, rep_at h n⟩
theorem ok_law_long {f : Addr} {fd : FuncData} (F : Fun K "_law_long" "_law_long" s__law_long f fd) (T : Txt K mg) {f__law_take : Addr} {d__law_take : FuncData} (c__law_take : Cal P w K mg base 1 "_law_take" ["tape", "many"] spTake f__law_take d__law_take) : FnOk P w K mg base CX0 2 f fd ["tape", "tree"] (spLong K) := by
  refine F.ok sc__law_long (fun vs H Q E h => ?_) (fun cdv A outer s H vs Q E hr h => ?_)
  · obtain ⟨d, c, v, t, rfl, _⟩ := h
    rfl
  · obtain ⟨d, c, v, t, rfl, hT, hat, ti, k⟩ := h
    have hu := hu_of hr
    unfold Tree.dt At at hat
    obtain ⟨tp, vs, rfl, htp, hl⟩ := hat
    simp only [AtL] at hl
    obtain ⟨v0, _, rfl, h0, v1, _, rfl, h1, v2, _, rfl, hb, rfl⟩ := hl
    obtain ⟨ep, rfl, hep⟩ := names_of h0
    unfold At at h1
    obtain ⟨pp, us, rfl, hpp, hA⟩ := h1
    have tf := ti.tf (Nat.le_refl _)
    have okx : PyData.strOk ("x" : Str) = true := by decide +kernel
    refine ⟨_, (pss_cons (ps_asg (pv 1) (pg_tup (by rfl) (pgs_cons (pg_name (i := 2) sc__law_long.nd rfl (.inl rfl)) (pgs_cons (pg_name (i := 3) sc__law_long.nd rfl (.inl rfl)) (pgs_cons (pg_name (i := 4) sc__law_long.nd rfl (.inl rfl)) pgs_nil)))))
      (pss_cons (ps_set (i := 5) sc__law_long.nd rfl (.inl rfl) (pe_op op_repA (pe_tup (pa_cons (pe_tup (pa_cons pe_str (pa_cons pe_str (pa_cons pe_str pa_nil)))) pa_nil)) (pe_op op_add pe_int (pe_call c__law_take.G (hr.mono (by decide)) (by rfl) c__law_take.m c__law_take.k c__law_take.b .nil pass0 (pa_cons (pv 0) (pa_cons pe_int pa_nil))))))
      (pss_cons (ps_set (i := 3) sc__law_long.nd rfl (.inl rfl) (pe_op op_catA (pv 3) (pe_tup (pa_cons (pe_tup (pa_cons pe_str (pa_cons (pe_tup (pa_cons pe_str pa_nil)) (pa_cons (pv 5) pa_nil)))) pa_nil))))
      (pss_cons (ps_for PassesOwn.never rfl (pi_range1 (by rfl) T.range (pa_cons (pe_op op_add pe_int (pe_call c__law_take.G (hr.mono (by decide)) (by rfl) c__law_take.m c__law_take.k c__law_take.b .nil pass0 (pa_cons (pv 0) (pa_cons pe_int pa_nil)))) pa_nil)) (pg_name (i := 6) sc__law_long.nd rfl (.inl rfl)) (pss_cons (ps_set (i := 7) sc__law_long.nd rfl (.inl rfl) (pe_tup (pa_cons pe_str (pa_cons (pe_op op_add_str pe_str (pe_callTy call_str_int (by rfl) T.str (by decide +kernel) (pa_cons (pv 6) pa_nil))) (pa_cons (pe_tup (pa_cons pe_str pa_nil)) pa_nil)))))
      (pss_one (ps_set (i := 3) sc__law_long.nd rfl (.inl rfl) (pe_op op_catA (pv 3) (pe_tup (pa_cons (pe_tup (pa_cons (pe_op op_add_str pe_str (pe_callTy call_str_int (by rfl) T.str (by decide +kernel) (pa_cons (pe_op op_add (pv 6) pe_int) pa_nil))) (pa_cons (pe_tup (pa_cons pe_str pa_nil)) (pa_cons (pe_op op_repA (pe_tup (pa_cons (pv 7) pa_nil)) (pe_op op_add pe_int (pe_call c__law_take.G (hr.mono (by decide)) (by rfl) c__law_take.m c__law_take.k c__law_take.b .nil pass0 (pa_cons (pv 0) (pa_cons pe_int pa_nil))))) pa_nil)))) pa_nil)))))))
      (pss_one (ps_ret (pe_tup (pa_cons (pv 2) (pa_cons (pv 3) (pa_cons (pe_op op_catA (pv 4) (pe_tup (pa_cons (pe_tup (pa_cons pe_str (pa_cons (pe_ix ix_tup (pe_ix ix_tup (pv 3) (pe_un un_neg pe_int) (fun _ _ => rfl)) pe_int (fun _ _ => rfl)) (pa_cons (pe_slice sl_tupA (pv 2) po_none (po_some pe_int)) pa_nil)))) pa_nil))) pa_nil)))))))))), ?_⟩
    refine ⟨_, rfl, tp, _, rfl, SqT.of htp, rfl, _, _, rfl, _, _, rfl, _, _, rfl, rfl, ?_⟩
    have S0 : SpS K H H d c ep pp v2 t := ⟨hT, .refl, hep, ⟨us, hpp, hA⟩, hb⟩
    refine ⟨by show 3 ≤ sizeLine; decide, fun a1 n1 => ⟨by show 1 ≤ sizeLine; decide, fun a2 n2 => ?_⟩⟩
    have s1 := same_upd (o := .tup [V.str "ask", .str "x", .str "n"]) n1
    have h1 := upd_same (H := H) (a := a1) (o := .tup [V.str "ask", .str "x", .str "n"])
    generalize upd H a1 (.tup [V.str "ask", .str "x", .str "n"]) = H1 at s1 h1 n2 ⊢
    have s2 := same_upd (o := .tup [V.ref a1]) n2
    have h2 := upd_same (H := H1) (a := a2) (o := .tup [V.ref a1])
    generalize upd H1 a2 (.tup [V.ref a1]) = H2 at s2 h2 ⊢
    have S2 := S0.same (s1.trans s2)
    have hask : At K H2 (Stm.ask "x" "n").dt (.ref a1) := by
      unfold Stm.dt
      rw [At]
      refine ⟨a1, _, rfl, s2 _ _ h1, ?_⟩
      simp only [AtL]
      exact ⟨_, _, rfl, by unfold At; rfl, _, _, rfl, by unfold At; rfl, _, _, rfl, by unfold At; rfl, rfl⟩
    refine ⟨_, rfl, d, c, 9, rfl, S2.T, by decide, by decide, fun r H3 q0 q1 T3 O3 => ?_⟩
    obtain ⟨j, rfl⟩ := Int.eq_ofNat_of_zero_le q0
    have S3 := S2.next T3 O3.kept
    have rw3 := S2.T.rws O3.kept
    refine ⟨_, _, rfl, rfl, ?_⟩
    show rRepA K (.ref a2) (.int ((1 : Int) + (j : Int))) H3 _
    rw [show (1 : Int) + (j : Int) = ((1 + j : Nat) : Int) by omega]
    refine rep_any (rw3.1 _ _ h2) (by omega) (by omega) fun ip H4 s4 hip => ?_
    have S4 := S3.same s4
    have hask4 := At.keep s4 (At.rws rw3 hask)
    have hinn : At K H4 (blkDt (List.replicate (1 + j) (Stm.ask "x" "n"))) (.ref ip) := by
      unfold blkDt
      rw [At]
      exact ⟨ip, _, rfl, hip, rep_at hask4 _⟩
    have ginn : BG 1 4000 (List.replicate (1 + j) (Stm.ask "x" "n")) := (BG.rep (bg_ask (x := "n") okx) (1 + j)).le (by omega) (by omega)
    clear hask hask4 hip s4 s1 h1 s2 h2 S0 S2 S3
    -- r0
    refine ⟨_, rfl, by show 1 ≤ sizeLine; decide, fun a5 n5 => ⟨_, rfl, by show 3 ≤ sizeLine; decide, fun a6 n6 => ⟨by show 1 ≤ sizeLine; decide, fun a7 n7 => ?_⟩⟩⟩
    have s5 := same_upd (o := .tup [V.str "x"]) n5
    have h5 := upd_same (H := H4) (a := a5) (o := .tup [V.str "x"])
    generalize upd H4 a5 (.tup [V.str "x"]) = H5 at s5 h5 n6 n7 ⊢
    have s6 := same_upd (o := .tup [V.str "r0", .ref a5, .ref ip]) n6
    have h6 := upd_same (H := H5) (a := a6) (o := .tup [V.str "r0", .ref a5, .ref ip])
    generalize upd H5 a6 (.tup [V.str "r0", .ref a5, .ref ip]) = H6 at s6 h6 n7 ⊢
    have s7 := same_upd (o := .tup [V.ref a6]) n7
    have h7 := upd_same (H := H6) (a := a7) (o := .tup [V.ref a6])
    generalize upd H6 a7 (.tup [V.ref a6]) = H7 at s7 h7 ⊢
    have s57 := (s5.trans s6).trans s7
    have S7 := S4.same s57
    obtain ⟨us7, hpp7, hA7⟩ := S7.p
    have lu := hA7.length
    rw [List.length_map] at lu
    have tpl := ti.pl
    refine cat_any hpp7 h7 (by show us7.length + 1 ≤ 100000; omega) fun p8 H8 s8 hp8 => ?_
    have S8 := S7.same s8
    have hA8 : AtL K H8 ((t.parts ++ [Prt.mk "r0" ["x"] (List.replicate (1 + j) (Stm.ask "x" "n"))]).map Prt.dt) (us7 ++ [.ref a6]) := by
      rw [List.map_append]
      refine AtL.app (AtL.keep s8 hA7) ?_
      simp only [List.map_cons, List.map_nil, AtL]
      exact ⟨_, _, rfl, prt_mk (q := a5) (bv := .ref ip) ((s7.trans s8) _ _ h6) (((s6.trans s7).trans s8) _ _ h5) (At.keep (s57.trans s8) hinn), rfl⟩
    clear hA7 hpp7 h5 h6 h7 S7 S4 hinn hpp hA hb hep
    -- the loop
    refine ⟨_, rfl, d, c, 4, rfl, S8.T, by decide, by decide, fun r9 H9 q9 q10 T9 O9 => ?_⟩
    obtain ⟨m, rfl⟩ := Int.eq_ofNat_of_zero_le q9
    have S9 := S8.next T9 O9.kept
    have rw9 := S8.T.rws O9.kept
    refine ⟨_, _, rfl, rfl, _, rfl, by omega, by omega, ?_⟩
    rw [show ((1 : Int) + (m : Int)).toNat = 1 + m by omega]
    refine for_range (n := 1 + m) (fun i σ H' => ∃ (ps : List Prt) (pq : Addr) (y6 y7 : Option V) (us : List V), σ = [some (.ref d), some (.ref tp), some (.ref ep), some (.ref pq), some v2, some (.ref ip), y6, y7] ∧ Tape H' d c ∧ Kept d H H' ∧ H' ep = some (.tup (t.ends.map V.str)) ∧ At K H' (blkDt t.body) v2 ∧ H' pq = some (.tup us) ∧ AtL K H' (ps.map Prt.dt) us ∧ ps ≠ [] ∧ ps.length ≤ 5 + i ∧ ∀ p ∈ ps, p.params.length ≤ 4000 ∧ BG 1 4000 p.body)
      ⟨t.parts ++ [Prt.mk "r0" ["x"] (List.replicate (1 + j) (Stm.ask "x" "n"))], p8, none, none, _, rfl, S9.T, S9.k, S9.e, S9.b, rw9.1 _ _ hp8, AtL.rws rw9 hA8, by simp, ?_, ?_⟩ ?_ ?_
    · rw [List.length_append]
      show t.parts.length + 1 ≤ 5 + 0
      omega
    · intro p hp
      rcases List.mem_append.mp hp with hp | hp
      · exact tf.p p hp
      · rw [List.mem_singleton.mp hp]
        exact ⟨by show 1 ≤ 4000; omega, ginn⟩
    · rintro i σ H1 hi ⟨ps, pq, y6, y7, us, rfl, T1, K1, he1, hb1, hq1, hA1, ne, lps, okp⟩
      have hi4 : i < 4 := by omega
      have lp : ∀ i : Nat, i < 5 → (Str.ofString "r").length + (Str.ofString (toString (i : Int))).length ≤ 1000 ∧ (i : Int).natAbs.log2 < 1920 := fun i hi => by
        rcases (by omega : i = 0 ∨ i = 1 ∨ i = 2 ∨ i = 3 ∨ i = 4) with rfl | rfl | rfl | rfl | rfl <;> decide +kernel
      have e0 : (0 : Int) + (i : Int) = ((i : Nat) : Int) := by omega
      rw [e0]
      refine ⟨_, rfl, _, rfl, (lp i (by omega)).2, _, _, rfl, rfl, sz6 (Nat.le_trans (lp i (by omega)).1 (by decide)), ?_⟩
      generalize Str.ofString "r" ++ Str.ofString (toString ((i : Nat) : Int)) = nm
      refine ⟨by show 1 ≤ sizeLine; decide, fun a1 n1 => ⟨by show 3 ≤ sizeLine; decide, fun a2 n2 => ?_⟩⟩
      have s1 := same_upd (o := .tup [V.str "x"]) n1
      have h1 := upd_same (H := H1) (a := a1) (o := .tup [V.str "x"])
      generalize upd H1 a1 (.tup [V.str "x"]) = H2 at s1 h1 n2 ⊢
      have s2 := same_upd (o := .tup [V.str "call", .str nm, .ref a1]) n2
      have h2 := upd_same (H := H2) (a := a2) (o := .tup [V.str "call", .str nm, .ref a1])
      generalize upd H2 a2 (.tup [V.str "call", .str nm, .ref a1]) = H3 at s2 h2 ⊢
      have s12 := s1.trans s2
      have hcall : At K H3 (Stm.call nm ["x"]).dt (.ref a2) := call_mk h2 (s2 _ _ h1)
      refine ⟨_, rfl, _, rfl, _, _, rfl, rfl, _, rfl, ?_⟩
      rw [show ((i : Nat) : Int) + 1 = ((i + 1 : Nat) : Int) by omega]
      refine ⟨(lp (i + 1) (by omega)).2, _, _, rfl, rfl, sz6 (Nat.le_trans (lp (i + 1) (by omega)).1 (by decide)), ?_⟩
      generalize Str.ofString "r" ++ Str.ofString (toString ((i + 1 : Nat) : Int)) = nm2
      refine ⟨by show 1 ≤ sizeLine; decide, fun a4 n4 => ?_⟩
      have s4 := same_upd (o := .tup [V.str "x"]) n4
      have h4 := upd_same (H := H3) (a := a4) (o := .tup [V.str "x"])
      generalize upd H3 a4 (.tup [V.str "x"]) = H4 at s4 h4 ⊢
      refine ⟨_, rfl, by show 1 ≤ sizeLine; decide, fun a5 n5 => ?_⟩
      have s5 := same_upd (o := .tup [V.ref a2]) n5
      have h5 := upd_same (H := H4) (a := a5) (o := .tup [V.ref a2])
      generalize upd H4 a5 (.tup [V.ref a2]) = H5 at s5 h5 ⊢
      have s35 := s4.trans s5
      have s15 := s12.trans s35
      have T5 := T1.keep s15
      refine ⟨_, rfl, d, c, 3, rfl, T5, by decide, by decide, fun r H6 q0 q1 T6 O6 => ?_⟩
      obtain ⟨jj, rfl⟩ := Int.eq_ofNat_of_zero_le q0
      have rw6 := T5.rws O6.kept
      refine ⟨_, _, rfl, rfl, ?_⟩
      show rRepA K (.ref a5) (.int ((2 : Int) + (jj : Int))) H6 _
      rw [show (2 : Int) + (jj : Int) = ((2 + jj : Nat) : Int) by omega]
      refine rep_any (rw6.1 _ _ h5) (by omega) (by omega) fun ip7 H7 s7 hip => ?_
      have hcall7 := At.keep s7 (At.rws rw6 (At.keep s35 hcall))
      have hinn : At K H7 (blkDt (List.replicate (2 + jj) (Stm.call nm ["x"]))) (.ref ip7) := by
        unfold blkDt
        rw [At]
        exact ⟨ip7, _, rfl, hip, rep_at hcall7 _⟩
      refine ⟨by show 3 ≤ sizeLine; decide, fun a8 n8 => ⟨by show 1 ≤ sizeLine; decide, fun a9 n9 => ?_⟩⟩
      have s8 := same_upd (o := .tup [V.str nm2, .ref a4, .ref ip7]) n8
      have h8 := upd_same (H := H7) (a := a8) (o := .tup [V.str nm2, .ref a4, .ref ip7])
      generalize upd H7 a8 (.tup [V.str nm2, .ref a4, .ref ip7]) = H8 at s8 h8 n9 ⊢
      have s9 := same_upd (o := .tup [V.ref a8]) n9
      have h9 := upd_same (H := H8) (a := a9) (o := .tup [V.ref a8])
      generalize upd H8 a9 (.tup [V.ref a8]) = H9 at s9 h9 ⊢
      have s79 := (s7.trans s8).trans s9
      have hq9 := s79 _ _ (rw6.1 _ _ (s15 _ _ hq1))
      have lu1 := hA1.length
      rw [List.length_map] at lu1
      refine cat_any hq9 h9 (by show us.length + 1 ≤ 100000; omega) fun p10 H10 s10 hp10 => ?_
      have sZ := s79.trans s10
      refine ⟨ps ++ [Prt.mk nm2 ["x"] (List.replicate (2 + jj) (Stm.call nm ["x"]))], p10, _, _, _, rfl, T6.keep sZ, ((K1.trans (Kept.of s15)).trans O6.kept).trans (Kept.of sZ), sZ _ _ (rw6.1 _ _ (s15 _ _ he1)), At.keep sZ (At.rws rw6 (At.keep s15 hb1)), hp10, ?_, by simp, ?_, fun p hp => ?_⟩
      · rw [List.map_append]
        refine AtL.app (AtL.keep sZ (AtL.rws rw6 (AtL.keep s15 hA1))) ?_
        simp only [List.map_cons, List.map_nil, AtL]
        exact ⟨_, _, rfl, prt_mk (q := a4) (bv := .ref ip7) ((s9.trans s10) _ _ h8) (sZ _ _ (rw6.1 _ _ (s5 _ _ h4))) (At.keep ((s8.trans s9).trans s10) hinn), rfl⟩
      · rw [List.length_append]
        show ps.length + 1 ≤ 5 + (i + 1)
        omega
      · rcases List.mem_append.mp hp with hp | hp
        · exact okp p hp
        · rw [List.mem_singleton.mp hp]
          refine ⟨by show 1 ≤ 4000; omega, ?_⟩
          exact (BG.rep (bg_call (p := nm) (es := ["x"]) (by show 1 ≤ 4000; omega) fun e he => by rw [List.mem_singleton.mp he]; exact okx) (2 + jj)).le (by omega) (by omega)
    · rintro σ H1 ⟨ps, pq, y6, y7, us, rfl, T1, K1, he1, hb1, hq1, hA1, ne, lps, okp⟩
      have lu1 := hA1.length
      rw [List.length_map] at lu1
      obtain ⟨nn, hnn⟩ : ∃ nn, ps.length = nn + 1 := ⟨ps.length - 1, by have := List.length_pos_iff.mpr ne; omega⟩
      have hnl : nn < ps.length := by omega
      obtain ⟨vl, e1l, e2l⟩ := hA1.get (i := nn) (d := ps[nn].dt) (by rw [List.getElem?_map, List.getElem?_eq_getElem hnl]; rfl)
      generalize ps[nn] = pl at e2l
      obtain ⟨al, ql, bl, rfl, hal, _, _⟩ := part_at e2l
      have ixl : atI us (-1) = some (.ref al) := atI_lst (by rw [lu1]; exact hnn) e1l
      refine ⟨_, rfl, _, rfl, _, rfl, _, rfl, _, rfl, pq, _, _, _, rfl, rfl, SqT.of hq1, ixl, al, _, _, _, rfl, rfl, SqT.of hal, atI_nat (j := 0) rfl, ?_⟩
      refine ⟨_, rfl, ?_⟩
      refine ⟨_, rfl, ?_⟩
      show rSlA K (.ref ep) none (some ((1 : Nat) : Int)) _ _
      refine sl_takeV he1 fun q5 H5 s5 hq5 => ?_
      refine ⟨by show 3 ≤ sizeLine; decide, fun a6 n6 => ⟨by show 1 ≤ sizeLine; decide, fun a7 n7 => ?_⟩⟩
      have s6 := same_upd (o := .tup [V.str "call", V.str pl.name, .ref q5]) n6
      have s7 := same_upd (o := .tup [V.ref a6]) n7
      have s57 := (s5.trans s6).trans s7
      have hst := upd_same (H := H5) (a := a6) (o := .tup [V.str "call", V.str pl.name, .ref q5])
      have bl0 : t.body.length ≤ 9000 := by
        have h1 := len_nB t.body
        have h2 := ti.b.nb
        omega
      have tel := ti.el
      refine blk_add (K := K) (s := Stm.call pl.name (t.ends.take 1)) (At.keep s57 hb1) upd_same (At.keep s7 (call_mk hst ?_)) bl0 fun p H8 s8 hp => ?_
      · rw [s6 _ _ hq5, List.map_take]
      have s58 := s57.trans s8
      refine ⟨by show 3 ≤ sizeLine; decide, fun a9 n9 => ?_⟩
      have s9 := same_upd (o := .tup [.ref ep, .ref pq, .ref p]) n9
      have s59 := s58.trans s9
      refine k (.ref a9) ⟨t.ends, ps, t.body ++ [Stm.call pl.name (t.ends.take 1)]⟩ _ ⟨by show t.ends.length ≤ 4000; omega, by show ps.length ≤ 12; omega, okp, ?_⟩ ?_ (T1.keep s59) (K1.trans (Kept.of s59))
      · exact ((ti.b.le (Nat.le_refl _) (Nat.le_refl _)).app ((bg_call (p := pl.name) (es := t.ends.take 1) (by rw [List.length_take]; omega) fun e he => ti.en e (List.mem_of_mem_take he)).le (Nat.zero_le _) (Nat.le_refl _))).le (by omega) (by omega)
      · have an := names_at (s59 _ _ he1) (K := K)
        unfold Tree.dt
        rw [At]
        refine ⟨a9, _, rfl, upd_same, ?_⟩
        simp only [AtL]
        refine ⟨_, _, rfl, an, _, _, rfl, ?_, _, _, rfl, At.keep s9 hp, rfl⟩
        rw [At]
        exact ⟨pq, _, rfl, s59 _ _ hq1, AtL.keep s59 hA1⟩
end
end OS

set_option maxHeartbeats 4000000
/-! C(e, ..) within a try: what it lets out may hang on the slots. -/
namespace OS
open PySem PySem.Spec PyProof.Rows L2
def tMakeS (C : Addr) (sp : Sp) (E : L2.St → XK) (t : TA) : TE := fun σ H Q =>
  t σ H fun vs H1 => ∀ n dn, H1 n = none → H1 dn = none → dn ≠ n → sp (.ref n :: vs) (upd (upd H1 dn (.own n)) n (.ins C dn [])) (fun v H2 => v = .non ∧ Q (.ref n) H2) (E σ)
theorem pe_makeS {X : Cx} {CT : CXT} {k : Nat} {f C : Addr} {fd : FuncData} {ps : List Str} {sp : Sp} {E : L2.St → XK} {x : Str} {p pos : Pos} {e : Expr} {es : List Expr} {t : TA}
    (M : Mk X.K C f) (F : FnOk X.prog X.w X.K X.mg X.base CT k f fd ps sp) (hr : Room (k + 1) X.A) (hg : Gl X x) (hm : X.mg x = some (.ref C)) (hb : Binds X.K fd ps []) (pass : ∀ σ, PassesAt CT X σ (E σ)) (ha : PA X (e :: es) t)
    (hdb : (x == ("__debug__" : Str)) = false := by decide) (he : starEach (e :: es) X.env = (false, eval e X.env) :: starEach es X.env := by rfl) (hpl : (backTo pos (starEach es X.env)).any (·.1) = false := by rfl) :
    PE X (.Call (.Name x p) (e :: es) [] pos) (tMakeS C sp E t) := by
  refine ⟨fun pins s σ H Q I h => wpAny_Call_Name_kw (ld_glob I hg hm ?_ hdb)⟩
  refine PySem.W.callWith_K (h₀ := X.base) I.ok.mod.kin M.kp (thn (ha.run pos pins s σ H _ I h) fun us s1 ⟨vs, H1, I1, r, q⟩ => ⟨I1.kIn, ?_⟩) he hpl
  have w := q (s1.heap.objs.size + 1) s1.heap.objs.size (I1.hok.fresh (Nat.le_succ _)) (I1.hok.fresh (Nat.le_refl _)) (Nat.ne_of_lt (Nat.lt_succ_self _))
  have J := Inv.made (C := C) I1
  have rr : Vals (V.ref (s1.heap.objs.size + 1) :: vs) (Value.ref (s1.heap.objs.size + 1) :: us) := .cons rfl r
  have ln : ((Value.ref (s1.heap.objs.size + 1) :: us) ++ []).length = ps.length := by
    rw [List.append_nil, ← rr.length]
    exact F.len _ _ _ _ w
  have bb := hb _ (Value.ref (s1.heap.objs.size + 1) :: us) J.kIn ln
  rw [List.append_nil] at bb
  refine wpAny_call (make_map (f := f) I1.kIn M.makes M.init (beq_iff_eq.mp M.fn) (codeAny_mono (F.run _ X.stack _ _ ⟨Value.ref (s1.heap.objs.size + 1) :: us, []⟩ _ _ _ (E σ) (hr.make C us []) (J.env0.make C us []) bb rr w) fun fl s' z => ?_))
  rcases fl with er | fl
  · exact pass σ pins _ _ er s' J z
  · cases fl with
    | ret u =>
      obtain ⟨v, H', I3, rv, ev, q3⟩ := J.after z
      subst ev
      exact ⟨rv, ⟨V.ref (s1.heap.objs.size + 1), H', I3, rfl, q3⟩⟩
    | next => exact False.elim z
    | brk => exact False.elim z
    | cont => exact False.elim z
end OS

namespace OS
open PySem PySem.Spec PyProof.Rows L2
/-! ### isinstance of a caught error with fields; a callee that may raise and does not -/
theorem passF {X : Cx} : Passes (L2.CX X.prog X.w) X E0 := fun _ _ _ _ _ _ _ c => by
  obtain ⟨_, _, _, _, _, _, _, _, _, _, _, _, z⟩ := c
  exact z.elim
/-- the heap has the error's fields at dd -/
def rIsF (K : PySem.W.Frag) (S a : Addr) (cls : Value) (d : Option Addr) : List V → Hp → VK → Prop := fun xs H Q =>
  ∃ (c : V) (cv : Value) (b : Bool) (dd : Addr) (fs : List (Str × V)), xs = [.ref a, c] ∧ cls = .ref S ∧ d = some dd ∧ H dd = some (.xd fs) ∧ (∀ u, RelV c u → u = cv) ∧ PySem.W.kitOne K (.ref S) cv = some b ∧ Q (.bl b) H
theorem call_isF {X : Cx} {a S : Addr} {oe : Obj} {cls : Value} {d : Option Addr} {pn : List (Addr × Obj)} (EC : ExcC X.K S) (hz : Zc cls d oe) (hf : ∃ vs, oe.data = .fields vs) :
    CallR (X.suite a ((a, oe) :: pn)) (.builtin "isinstance") (rIsF X.K S a cls d) := by
  intro pins s σ H xs us Q I rr h
  obtain ⟨c, cv, b, dd, fs, rfl, rfl, rfl, hx, hcv, hk, q⟩ := h
  obtain ⟨u1, u2, rfl, ra, rc⟩ := vals2 rr
  cases ra
  have e := hcv u2 rc
  subst e
  obtain ⟨g, _⟩ := I.pin (a, oe) (List.mem_append_left _ List.mem_cons_self)
  obtain ⟨vs, hv⟩ := hf
  obtain ⟨mA, n1, _⟩ := (I.hok dd _ hx : ObjOk X.prog X.w H s.heap dd (.xd fs))
  obtain ⟨od, ho, _⟩ := lookIn_ns n1
  have nc : PySem.W.notCls oe = true := by
    unfold PySem.W.notCls
    rw [hv]
  have J : PySem.W.InstAt s.heap a oe S (some od) := ⟨g, hz.1, nc, by rw [hz.2]; exact ho⟩
  have hcl : (PySem.W.clsIn X.K S).isSome = true := by
    obtain ⟨cd, hc, _⟩ := PySem.W.any_some EC.hd
    rw [hc]
    rfl
  have Z := PySem.W.kitx_exc (x := a) (od := some od) (ox := oe) hcl EC.hg EC.hk EC.hs EC.ha EC.hn EC.ht EC.hm
  exact PySem.W.kia_one Z I.kIn J hk (fun z => nomatch z) fun tk => ⟨.bl b, H, I.kept (t' := tk) fun _ _ z => z, rfl, q⟩
/-! ### a text is read, the error's place told -/
/-- the error's class is what its clause names -/
theorem exm_is {K : PySem.W.Frag} {S : Addr} (hb : PySem.W.subIn K (.ref S) (.type "BaseException") = some true) (hc : PySem.W.isClsIn K S = true) (ht : PySem.W.typeIn K (.ref S) = some (.type "type")) (hs : PySem.W.subIn K (.ref S) (.ref S) = some true) : PySem.W.exmOne K (.ref S) (.ref S) = some true := by
  unfold PySem.W.isClsIn at hc
  simp [PySem.W.exmOne, PySem.W.kitCls, hb, hc, ht, hs]
/-! ### the law's own: what is told of a tree -/
structure KpT (PT : Addr) (H H' : Hp) : Prop where
  kept : ∀ b o, b ≠ PT → H b = some o → H' b = some o
  tab : GxR.TabG H' PT
theorem KpT.of {PT : Addr} {H H' : Hp} (s : Same H H') (t : GxR.TabG H PT) : KpT PT H H' := ⟨fun b o _ e => s b o e, TabG.keep s t⟩
theorem KpT.trans {PT : Addr} {H H' H'' : Hp} (a : KpT PT H H') (b : KpT PT H' H'') : KpT PT H H'' := ⟨fun c o n e => b.kept c o n (a.kept c o n e), b.tab⟩
theorem KpT.tup {PT : Addr} {H H' : Hp} (k : KpT PT H H') (t : GxR.TabG H PT) : ∀ b ys, H b = some (.tup ys) → H' b = some (.tup ys) := fun b ys e => k.kept b _ (fun z => by
  obtain ⟨ps, h1, _⟩ := t
  rw [z, h1] at e
  cases e) e
/-- a Score was made at a fresh place -/
theorem KpS.fresh {x dx PT : Addr} {C : Addr} {H H' : Hp} (hx : H x = none) (hd : H dx = none) (k : KpS x PT (upd (upd H dx (.own x)) x (.ins C dx [])) H') : KpT PT H H' :=
  ⟨fun b o n e => k.kept b o (ne_of_none e hx) n (by rw [upd_ne (ne_of_none e hx), upd_ne (ne_of_none e hd)]; exact e), k.tab⟩
section
variable {P : Program} {w : World} {K : PySem.W.Frag} {mg : Str → Option Value} {base : Heap} {C CS CE PT : Addr}
def spTold4 (K : PySem.W.Frag) (PT : Addr) : Sp := fun vs H Q _ => ∃ (v : V) (t : Tree) (b : Bool), vs = [v, .bl b] ∧ At K H t.dt v ∧ TreeOk t ∧ Small t ∧ AvOk t ∧ GxR.TabG H PT ∧ ∀ H', KpT PT H H' → Q (.str ((treeRule t).getD "")) H'
theorem ok_law_told {f : Addr} {fd : FuncData} (F : Fun K "_law_told" "_law_told" s__law_told f fd) (T : Txt K mg) (R : XfC K CS) (IE : ExcC K CS) (hno : PySem.W.findIn K (.ref CS) "rule" = some none) (te : PySem.W.exmOne K (.ref CS) (.ref CS) = some true) (gC : mg "InvalidScore" = some (.ref CS)) (gE : mg "ScoreError" = some (.ref CE)) (kE : PySem.W.kitOne K (.ref CS) (.ref CE) = some true)
    {f_check_tree : Addr} {d_check_tree : FuncData} (c_check_tree : CalX P w K mg base 5 "check_tree" ["tree"] (spChkT K CS) f_check_tree d_check_tree) {f_i : Addr} {d_i : FuncData} (M : Mk K C f_i) (G : FnOk P w K mg base (L2.CX P w) 6 f_i d_i ["self", "tree"] (spMkS K C CS PT)) (bI : Binds K d_i ["self", "tree"] []) (mS : mg "Score" = some (.ref C)) : FnOk P w K mg base CX0 8 f fd ["tree", "whole"] (spTold4 K PT) := by
  refine F.ok sc__law_told (fun vs H Q E h => ?_) (fun cdv A outer s H vs Q E hr h => ?_)
  · obtain ⟨v, t, b, rfl, _⟩ := h
    rfl
  · obtain ⟨v, t, b, rfl, hat, ok, sm, av, hT, k⟩ := h
    have hr7 : Room 7 _ := hr
    have hr5 : Room 5 _ := hr.mono (by decide)
    refine ⟨_, pss_cons (ps_try_as (i := 2) (tb := fun W => _) (ts := fun a cls d => _) (Wout := fun _ _ _ _ => False) rfl rfl sc__law_told.nd rfl rfl ⟨rfl, by decide, .inl gC⟩ takes0
      (fun W pn xe tk _ => pss_one (ps_if (pt_val (pv 1)) (pss_one (ps_expr (by exact (pe_makeS M G hr7 rfl mS bI (fun σ => passAt tk σ) (by exact (pa_cons (pv 0) pa_nil))))))
        (pss_one (ps_if (pt_cmpR op_notN (by exact (pe_callS c_check_tree.G hr5 rfl c_check_tree.m c_check_tree.k c_check_tree.b (fun σ => passAt tk σ) (by exact (pa_cons (pv 0) pa_nil)))) pe_non (nomark _)) (pss_one (ps_ret pe_str)) pss_nil))))
      (fun a oe cls d pn hz hf => pss_one (ps_ret (by exact (pe_ifExp (pt_val (pe_callB (call_isF IE hz hf) (by rfl) T.isinstance (by decide +kernel) (pa_cons (pv 2) (pa_cons (pe_glob rfl gE relR) pa_nil)))) (pe_xf R hno hz hf (pv 2)) pe_str)))))
      (pss_one (ps_ret pe_str)), ?_⟩
    have fin : ∀ z, treeRule t = some z → ∀ H', KpT PT H H' → Q (.str z) H' := fun z hz H' kk => by
      have := k H' kk
      rw [hz] at this
      exact this
    refine ⟨_, rfl, b, rfl, ?_⟩
    cases b with
    | true =>
      refine iteT ⟨_, rfl, fun x dx hx hd hne => ?_⟩
      have hx1 : upd (upd H dx (.own x)) x (.ins C dx []) x = some (.ins C dx []) := upd_same
      have sm1 : Same H (upd (upd H dx (.own x)) x (.ins C dx [])) := same_off hx (same_upd hd)
      refine ⟨x, dx, v, t, rfl, hx1, At.keep sm1 hat, ok, sm, av, TabG.keep sm1 hT, fun hn H' sc kp => ⟨rfl, ?_⟩, fun z hz d H' s1 hxd => ?_⟩
      · have := k H' (KpS.fresh hx hd kp)
        rw [hn] at this
        exact this
      · refine ⟨true, te, fun _ a0 ha0 => ?_, fun q => Bool.noConfusion q⟩
        obtain ⟨dd, e1, e2⟩ := hxd
        have kk : KpT PT H H' := KpT.of (sm1.trans s1) hT
        refine ⟨_, rfl, .ref CE, .ref CE, true, dd, _, rfl, rfl, e1, e2, fun u r => (by cases r; rfl), kE, true, rfl, iteT ?_⟩
        exact ⟨_, rfl, rfl, rfl, dd, _, _, e1, e2, by rw [List.lookup_cons, beq_self_eq_true], fin z hz H' kk⟩
    | false =>
      refine iteF ⟨_, rfl, v, t, rfl, hat, ok, fun hn H' s1 => ?_, fun z hz d H' s1 hxd => ?_⟩
      · refine ⟨rfl, _, rfl, ?_⟩
        refine iteF ?_
        have := k H' (KpT.of s1 hT)
        rw [hn] at this
        exact this
      · refine ⟨true, te, fun _ a0 ha0 => ?_, fun q => Bool.noConfusion q⟩
        obtain ⟨dd, e1, e2⟩ := hxd
        have kk : KpT PT H H' := KpT.of s1 hT
        refine ⟨_, rfl, .ref CE, .ref CE, true, dd, _, rfl, rfl, e1, e2, fun u r => (by cases r; rfl), kE, true, rfl, iteT ?_⟩
        exact ⟨_, rfl, rfl, rfl, dd, _, _, e1, e2, by rw [List.lookup_cons, beq_self_eq_true], fin z hz H' kk⟩
end
end OS

namespace OS
open PySem PySem.Spec PyProof.Rows L2
/-! ### the law -/
theorem TabG.kept {PT d c : Addr} {H H' : Hp} (t : GxR.TabG H PT) (T : Tape H d c) (k : Kept d H H') : GxR.TabG H' PT := by
  obtain ⟨ps, h1, h2⟩ := t
  obtain ⟨ns, i, l, se, sa, h⟩ := T
  exact ⟨ps, k PT _ (ne_of h1 h.hd (by intro z; cases z)) h1, h2⟩
theorem tree_kable (t : Tree) : kable t.dt := by
  have h1 := names_kable t.ends
  have h2 := blk_kable t.body
  have h3 : kableL (t.parts.map Prt.dt) := kableL_of fun d hd => by
    obtain ⟨p, _, rfl⟩ := List.mem_map.mp hd
    have a := names_kable p.params
    have b := blk_kable p.body
    simp only [Prt.dt, namesDt, blkDt, kable, kableL, true_and, and_true]
    exact ⟨a, b⟩
  simp only [Tree.dt, namesDt, blkDt, kable, kableL, and_true]
  exact ⟨h1, h3, h2⟩
section
variable {P : Program} {w : World} {K : PySem.W.Frag} {mg : Str → Option Value} {base : Heap} {PT : Addr}
def spLaw (K : PySem.W.Frag) (PT : Addr) : Sp := fun vs H Q _ => ∃ (a : Addr) (ns : List Int), vs = [.ref a] ∧ SqL K H a (ns.map V.int) ∧ ns.length ≤ 63 ∧ GxR.TabG H PT ∧ ∀ H', Q (.bl true) H'
theorem ok_law {f : Addr} {fd : FuncData} (F : Fun K "law" "law" s_law f fd) (T : Txt K mg) {f__law_take : Addr} {d__law_take : FuncData} (c__law_take : Cal P w K mg base 1 "_law_take" ["tape", "many"] spTake f__law_take d__law_take) {f__law_tape : Addr} {d__law_tape : FuncData} (c__law_tape : Cal P w K mg base 1 "_law_tape" ["script"] (spTape K) f__law_tape d__law_tape) {f__law_tree : Addr} {d__law_tree : FuncData} (c__law_tree : Cal P w K mg base 16 "_law_tree" ["tape", "depth", "most"] (spTreeD K 3) f__law_tree d__law_tree) {f__law_spoilt : Addr} {d__law_spoilt : FuncData} (c__law_spoilt : Cal P w K mg base 2 "_law_spoilt" ["tape", "tree"] (spSpoil K) f__law_spoilt d__law_spoilt) {f__law_long : Addr} {d__law_long : FuncData} (c__law_long : Cal P w K mg base 2 "_law_long" ["tape", "tree"] (spLong K) f__law_long d__law_long) {f__law_rule : Addr} {d__law_rule : FuncData} (c__law_rule : Cal P w K mg base 42 "_law_rule" ["tree"] (spRule K) f__law_rule d__law_rule) {f__law_told : Addr} {d__law_told : FuncData} (c__law_told : Cal P w K mg base 8 "_law_told" ["tree", "whole"] (spTold4 K PT) f__law_told d__law_told) : FnOk P w K mg base CX0 43 f fd ["script"] (spLaw K PT) := by
  refine F.ok sc_law (fun vs H Q E h => ?_) (fun cdv A outer s H vs Q E hr h => ?_)
  · obtain ⟨a, ns, rfl, _⟩ := h
    rfl
  · obtain ⟨a, ns, rfl, hS, h63, hT, k⟩ := h
    have hu := hu_of hr
    refine ⟨_, (pss_cons (ps_set (i := 1) sc_law.nd rfl (.inl rfl) (pe_call c__law_tape.G (hr.mono (by decide)) (by rfl) c__law_tape.m c__law_tape.k c__law_tape.b .nil pass0 (pa_cons (pv 0) pa_nil)))
      (pss_cons (ps_set (i := 2) sc_law.nd rfl (.inl rfl) (pe_call c__law_tree.G (hr.mono (by decide)) (by rfl) c__law_tree.m c__law_tree.k c__law_tree.b .nil pass0 (pa_cons (pv 1) (pa_cons pe_int (pa_cons pe_int pa_nil)))))
      (pss_cons (ps_for PassesOwn.never rfl (pi_range1 (by rfl) T.range (pa_cons (pe_op op_modN (pe_call c__law_take.G (hr.mono (by decide)) (by rfl) c__law_take.m c__law_take.k c__law_take.b .nil pass0 (pa_cons (pv 1) (pa_cons pe_int pa_nil))) pe_int) pa_nil)) (pg_name (i := 3) sc_law.nd rfl (.inl rfl)) (pss_one (ps_set (i := 2) sc_law.nd rfl (.inl rfl) (pe_call c__law_spoilt.G (hr.mono (by decide)) (by rfl) c__law_spoilt.m c__law_spoilt.k c__law_spoilt.b .nil pass0 (pa_cons (pv 1) (pa_cons (pv 2) pa_nil))))))
      (Evl.pss_cut (ps_if (pt_cmpR op_eq (pe_call c__law_take.G (hr.mono (by decide)) (by rfl) c__law_take.m c__law_take.k c__law_take.b .nil pass0 (pa_cons (pv 1) (pa_cons pe_int pa_nil))) pe_int (nomark _)) (pss_one (ps_set (i := 2) sc_law.nd rfl (.inl rfl) (pe_call c__law_long.G (hr.mono (by decide)) (by rfl) c__law_long.m c__law_long.k c__law_long.b .nil pass0 (pa_cons (pv 1) (pa_cons (pv 2) pa_nil))))) pss_nil)
      (pss_cons (ps_set (i := 4) sc_law.nd rfl (.inl rfl) (pe_call c__law_rule.G (hr.mono (by decide)) (by rfl) c__law_rule.m c__law_rule.k c__law_rule.b .nil pass0 (pa_cons (pv 2) pa_nil)))
      (pss_one (ps_ret (pe_and (pe_cmpR op_eq (pe_call c__law_told.G (hr.mono (by decide)) (by rfl) c__law_told.m c__law_told.k c__law_told.b .nil pass0 (pa_cons (pv 2) (pa_cons pe_bl pa_nil))) (pv 4) (nomark _)) (pe_one (pe_cmpR op_eq (pe_call c__law_told.G (hr.mono (by decide)) (by rfl) c__law_told.m c__law_told.k c__law_told.b .nil pass0 (pa_cons (pv 2) (pa_cons pe_bl pa_nil))) (pv 4) (nomark _))))))))))), ?_⟩
    refine ⟨_, rfl, a, ns, rfl, hS, h63, fun d c H1 s1 nd nc T1 => ?_⟩
    have G1 := TabG.keep s1 hT
    refine ⟨_, rfl, d, c, 2, 4, rfl, by omega, by omega, by omega, T1, fun v x H2 ox wx ax T2 K2 => ?_⟩
    have G2 := TabG.kept G1 T1 K2
    have g2 : gwd 2 = 1040 := rfl
    have ti := ti_drawn ox (by have := wx.1; omega) wx.2
    refine ⟨_, rfl, d, c, 4, rfl, T2, by decide, by decide, fun r H3 r0 r1 T3 O3 => ?_⟩
    have a3 := At.rws (T2.rws O3.kept) ax
    have G3 := TabG.kept G2 T2 O3.kept
    obtain ⟨j, rfl⟩ := Int.eq_ofNat_of_zero_le r0
    have em : ((j : Nat) : Int).fmod 3 = ((j % 3 : Nat) : Int) := by
      rw [Int.fmod_eq_emod_of_nonneg _ (by omega)]
      omega
    refine ⟨_, _, rfl, rfl, (by show (3 : Int) ≠ 0; decide), ((j % 3 : Nat) : Int), by show [V.int (((j : Nat) : Int).fmod 3)] = _; rw [em], by omega, by omega, ?_⟩
    rw [Int.toNat_natCast]
    refine for_range (n := j % 3) (fun i σ H' => ∃ (v : V) (t : Tree) (y3 : Option V), σ = [some (.ref a), some (.ref d), some v, y3, none] ∧ TI i t ∧ At K H' t.dt v ∧ Tape H' d c ∧ GxR.TabG H' PT) ⟨v, x, none, rfl, ti, a3, T3, G3⟩ ?_ ?_
    · rintro i σ H4 hi ⟨v, t, y3, rfl, ti, at4, T4, G4⟩
      exact ⟨_, rfl, _, rfl, d, c, v, i, t, rfl, T4, at4, ti, by omega, fun v' t' H5 ti5 at5 T5 K5 => ⟨v', t', _, rfl, ti5, at5, T5, TabG.kept G4 T4 K5⟩⟩
    rintro σ H4 ⟨v, t, y3, rfl, ti, at4, T4, G4⟩
    have ti2 : TI 2 t := by
      rcases (by omega : j % 3 = 0 ∨ j % 3 = 1 ∨ j % 3 = 2) with e | e | e <;> rw [e] at ti
      · exact ti.up.up
      · exact ti.up
      · exact ti
    refine ⟨fun σ H' => ∃ (v : V) (t : Tree), σ = [some (.ref a), some (.ref d), some v, y3, none] ∧ TF t ∧ At K H' t.dt v ∧ GxR.TabG H' PT, ?_, ?_⟩
    · refine ⟨_, rfl, d, c, 6, rfl, T4, by decide, by decide, fun r H5 r0 r1 T5 O5 => ⟨rfl, _, rfl, ?_⟩⟩
      have at5 := At.rws (T4.rws O5.kept) at4
      have G5 := TabG.kept G4 T4 O5.kept
      refine ite2 (fun _ => ?_) (fun _ => ?_)
      · exact ⟨_, rfl, _, rfl, d, c, v, t, rfl, T5, at5, ti2, fun v' t' H6 tf at6 T6 K6 => ⟨v', t', rfl, tf, at6, TabG.kept G5 T5 K6⟩⟩
      · exact ⟨v, t, rfl, ti2.tf (Nat.le_refl _), at5, G5⟩
    rintro σ H5 ⟨v, t, rfl, tf, at5, G5⟩
    have ok := tf.all
    refine ⟨_, rfl, v, t, rfl, at5, ok.lo, fun H6 s6 => ?_⟩
    have at6 := At.keep s6 at5
    have G6 := TabG.keep s6 G5
    refine ⟨_, rfl, v, t, false, rfl, at6, ok.ok, ok.sm, ok.av, G6, fun H7 k7 => ⟨_, rfl, rfl, ?_⟩⟩
    have at7 := ky_at (k7.tup G6) (tree_kable t) at6
    refine ⟨_, rfl, ?_⟩
    rw [decide_eq_true (rfl : V.str ((treeRule t).getD (Str.ofString "")) = V.str ((treeRule t).getD (Str.ofString "")))]
    refine iteT ⟨_, rfl, v, t, true, rfl, at7, ok.ok, ok.sm, ok.av, k7.tab, fun H8 k8 => ⟨_, rfl, rfl, ?_⟩⟩
    rw [decide_eq_true (rfl : V.str ((treeRule t).getD (Str.ofString "")) = V.str ((treeRule t).getD (Str.ofString "")))]
    exact k H8
end
end OS

namespace OS
open PySem PySem.Spec PyProof.Rows L2
/-! ### written dicts -/
theorem isStr_str (x z : Str) (t : Tok) : (Value.str x t).isStr z = decide (x = z) := by
  show _ = _
  by_cases h : x = z
  · rw [decide_eq_true h, h]
    exact beq_self_eq_true z
  · rw [decide_eq_false h]
    exact beq_eq_false_iff_ne.mpr h
/-- a written dict with texts as keys, numbers as values -/
def IEnts : List DictEntry → List (Str × Int) → Prop
  | [], [] => True
  | e :: r, p :: q => (∃ t, e.key = .str p.1 t) ∧ (∃ t, e.val = .int p.2 t) ∧ IEnts r q
  | _, _ => False
theorem IEnts.find (z : Str) : ∀ {es : List DictEntry} {ks : List (Str × Int)}, IEnts es ks → es.any (·.refKey) = false ∧ ((ks.find? fun p => decide (p.1 = z)) = none → es.find? (·.key.isStr z) = none) ∧ ∀ p, (ks.find? fun p => decide (p.1 = z)) = some p → ∃ e t, es.find? (·.key.isStr z) = some e ∧ e.val = .int p.2 t
  | [], [], _ => ⟨rfl, fun _ => rfl, fun p h => by cases h⟩
  | e :: r, p :: q, h => by
    obtain ⟨⟨t, hk⟩, ⟨t2, hv⟩, hr⟩ := h
    obtain ⟨i1, i2, i3⟩ := IEnts.find z hr
    have hs : e.key.isStr z = decide (p.1 = z) := by rw [hk]; exact isStr_str _ _ _
    refine ⟨?_, fun hn => ?_, fun x hx => ?_⟩
    · rw [List.any_cons, i1, Bool.or_false]
      unfold DictEntry.refKey
      rw [hk]
    · rw [List.find?_cons] at hn ⊢
      rw [hs]
      cases c : decide (p.1 = z) with
      | true => rw [c] at hn; cases hn
      | false => rw [c] at hn; exact i2 hn
    · rw [List.find?_cons] at hx ⊢
      rw [hs]
      cases c : decide (p.1 = z) with
      | true =>
        rw [c] at hx
        cases hx
        exact ⟨e, t2, rfl, hv⟩
      | false => rw [c] at hx; exact i3 x hx
theorem ie_cons {e : DictEntry} {r : List DictEntry} {k : Str} {v : Int} {q : List (Str × Int)} {t t2 : Tok} (h1 : e.key = .str k t) (h2 : e.val = .int v t2) (h5 : IEnts r q) : IEnts (e :: r) ((k, v) :: q) := ⟨⟨t, h1⟩, ⟨t2, h2⟩, h5⟩
theorem ie_nil : IEnts [] [] := trivial
def placesW : List (Str × Int) := [("message", 4), ("set", 3), ("if", 2), ("while", 2)]
theorem places_ns {K : PySem.W.Frag} {d : Addr} {es : Array DictEntry} {n : Nat} (y : K.lookup d = some ⟨.type "dict", none, .dict es n, #[]⟩) (f : IEnts es.toList placesW) :
    (∀ z, placeOf z = none → PySem.W.nsIn K d z = some none) ∧ ∀ z k, placeOf z = some k → ∃ t, PySem.W.nsIn K d z = some (some (.int k t)) := by
  have pf : ∀ z, (placesW.find? fun p => decide (p.1 = z)).map (·.2) = placeOf z := fun z => by
    unfold placesW placeOf
    simp only [List.find?_cons, List.find?_nil]
    by_cases h1 : z = "message"
    · rw [h1]; rfl
    rw [if_neg h1, decide_eq_false (fun e => h1 e.symm)]
    by_cases h2 : z = "set"
    · rw [h2]; rfl
    rw [if_neg h2, decide_eq_false (fun e => h2 e.symm)]
    by_cases h3 : z = "if"
    · rw [h3]; rfl
    rw [if_neg h3, decide_eq_false (fun e => h3 e.symm)]
    by_cases h4 : z = "while"
    · rw [h4]; rfl
    rw [if_neg h4, decide_eq_false (fun e => h4 e.symm)]
    rfl
  refine ⟨fun z hz => ?_, fun z k hk => ?_⟩
  · obtain ⟨i1, i2, _⟩ := f.find z
    have hn : (placesW.find? fun p => decide (p.1 = z)) = none := by
      have := pf z
      rw [hz] at this
      cases e : placesW.find? fun p => decide (p.1 = z) with
      | none => rfl
      | some p => rw [e] at this; cases this
    unfold PySem.W.nsIn
    rw [y]
    dsimp only
    rw [i2 hn]
    dsimp only
    rw [i1]
    rfl
  · obtain ⟨_, _, i3⟩ := f.find z
    obtain ⟨p, hp, rfl⟩ : ∃ p, (placesW.find? fun p => decide (p.1 = z)) = some p ∧ p.2 = k := by
      have := pf z
      rw [hk] at this
      cases e : placesW.find? fun p => decide (p.1 = z) with
      | none => rw [e] at this; cases this
      | some p => rw [e] at this; exact ⟨p, rfl, Option.some.inj this⟩
    obtain ⟨e, t, he, hv⟩ := i3 p hp
    refine ⟨t, ?_⟩
    unfold PySem.W.nsIn
    rw [y]
    dsimp only
    rw [he]
    dsimp only
    rw [hv]
section
variable {P : Program} {w : World} {K : PySem.W.Frag} {mg : Str → Option Value} {base : Heap}
theorem lall_all (T : Txt K mg) {f1 : Addr} {d1 : FuncData} (F1 : Fun K "_law_all" "_law_all" s__law_all f1 d1) (b1 : Binds K d1 ["block"] []) (m1 : mg "_law_all" = some (.ref f1)) :
    ∀ n : Nat, FnOk P w K mg base CX0 (1+n) f1 d1 ["block"] (spAll K n)
  | 0 => all_none
  | n + 1 => ok_law_all F1 T n ⟨lall_all T F1 b1 m1 n, b1, F1.kp, m1⟩
theorem meas_all (T : Txt K mg) {f1 : Addr} {d1 : FuncData} (F1 : Fun K "_law_measure" "_law_measure" s__law_measure f1 d1) (b1 : Binds K d1 ["block", "parts"] []) (m1 : mg "_law_measure" = some (.ref f1)) :
    ∀ n : Nat, FnOk P w K mg base CX0 (1+n) f1 d1 ["block", "parts"] (spMeas K n)
  | 0 => meas_none
  | n + 1 => ok_law_measure F1 T n ⟨meas_all T F1 b1 m1 n, b1, F1.kp, m1⟩
end
end OS

set_option maxHeartbeats 4000000
namespace OS
open PySem PySem.Spec PyProof.Rows L2
open LamX GxR in
theorem all_mk {l : PySem.W.OpenLaw} {w : World} {K : PySem.W.Frag} {h : Heap} {mg : Str → Option Value} {fa : Addr} {ts : List Addr} (X : K.In h) (G : h.Ns mainGlobals mg) (hfa : mg "law" = some (.ref fa)) (TA : ∀ P ∈ ts, h.get? P = some { cls := .none, data := .fields #[] })
    {C_InvalidScore : Addr}
    {C_Score : Addr}
    {f_key_of : Addr} {od_key_of an_key_of : Option Addr} {sl_key_of : Array (Option Value)} {oc_key_of kV_key_of dc_key_of pm_key_of ct_key_of cd_key_of : Value}
    {f_numbered : Addr} {od_numbered an_numbered : Option Addr} {sl_numbered : Array (Option Value)} {oc_numbered kV_numbered dc_numbered pm_numbered ct_numbered cd_numbered : Value}
    {f_inner_blocks : Addr} {od_inner_blocks an_inner_blocks : Option Addr} {sl_inner_blocks : Array (Option Value)} {oc_inner_blocks kV_inner_blocks dc_inner_blocks pm_inner_blocks ct_inner_blocks cd_inner_blocks : Value}
    {f_listed : Addr} {od_listed an_listed : Option Addr} {sl_listed : Array (Option Value)} {oc_listed kV_listed dc_listed pm_listed ct_listed cd_listed : Value}
    {f_are_different : Addr} {od_are_different an_are_different : Option Addr} {sl_are_different : Array (Option Value)} {oc_are_different kV_are_different dc_are_different pm_are_different ct_are_different cd_are_different : Value}
    {f_ends_of : Addr} {od_ends_of an_ends_of : Option Addr} {sl_ends_of : Array (Option Value)} {oc_ends_of kV_ends_of dc_ends_of pm_ends_of ct_ends_of cd_ends_of : Value}
    {f_is_right_call : Addr} {od_is_right_call an_is_right_call : Option Addr} {sl_is_right_call : Array (Option Value)} {oc_is_right_call kV_is_right_call dc_is_right_call pm_is_right_call ct_is_right_call cd_is_right_call : Value}
    {f_check_names : Addr} {od_check_names an_check_names : Option Addr} {sl_check_names : Array (Option Value)} {oc_check_names kV_check_names dc_check_names pm_check_names ct_check_names cd_check_names : Value}
    {f_check_statement : Addr} {od_check_statement an_check_statement : Option Addr} {sl_check_statement : Array (Option Value)} {oc_check_statement kV_check_statement dc_check_statement pm_check_statement ct_check_statement cd_check_statement : Value}
    {f_check_block : Addr} {od_check_block an_check_block : Option Addr} {sl_check_block : Array (Option Value)} {oc_check_block kV_check_block dc_check_block pm_check_block ct_check_block cd_check_block : Value}
    {f_played_size : Addr} {od_played_size an_played_size : Option Addr} {sl_played_size : Array (Option Value)} {oc_played_size kV_played_size dc_played_size pm_played_size ct_played_size cd_played_size : Value}
    {f_part_sizes : Addr} {od_part_sizes an_part_sizes : Option Addr} {sl_part_sizes : Array (Option Value)} {oc_part_sizes kV_part_sizes dc_part_sizes pm_part_sizes ct_part_sizes cd_part_sizes : Value}
    {f_check_tree : Addr} {od_check_tree an_check_tree : Option Addr} {sl_check_tree : Array (Option Value)} {oc_check_tree kV_check_tree dc_check_tree pm_check_tree ct_check_tree cd_check_tree : Value}
    {f_renamed : Addr} {od_renamed an_renamed : Option Addr} {sl_renamed : Array (Option Value)} {oc_renamed kV_renamed dc_renamed pm_renamed ct_renamed cd_renamed : Value}
    {f_tasks : Addr} {od_tasks an_tasks : Option Addr} {sl_tasks : Array (Option Value)} {oc_tasks kV_tasks dc_tasks pm_tasks ct_tasks cd_tasks : Value}
    {f_call_tasks : Addr} {od_call_tasks an_call_tasks : Option Addr} {sl_call_tasks : Array (Option Value)} {oc_call_tasks kV_call_tasks dc_call_tasks pm_call_tasks ct_call_tasks cd_call_tasks : Value}
    {f_played_rows : Addr} {od_played_rows an_played_rows : Option Addr} {sl_played_rows : Array (Option Value)} {oc_played_rows kV_played_rows dc_played_rows pm_played_rows ct_played_rows cd_played_rows : Value}
    {f_next_position : Addr} {od_next_position an_next_position : Option Addr} {sl_next_position : Array (Option Value)} {oc_next_position kV_next_position dc_next_position pm_next_position ct_next_position cd_next_position : Value}
    {f_next_positions : Addr} {od_next_positions an_next_positions : Option Addr} {sl_next_positions : Array (Option Value)} {oc_next_positions kV_next_positions dc_next_positions pm_next_positions ct_next_positions cd_next_positions : Value}
    {f_value_of : Addr} {od_value_of an_value_of : Option Addr} {sl_value_of : Array (Option Value)} {oc_value_of kV_value_of dc_value_of pm_value_of ct_value_of cd_value_of : Value}
    {f_Score___init__ : Addr} {od_Score___init__ an_Score___init__ : Option Addr} {sl_Score___init__ : Array (Option Value)} {oc_Score___init__ kV_Score___init__ dc_Score___init__ pm_Score___init__ ct_Score___init__ : Value}
    {cc_Score___init__ PP_Score___init__ : Addr} {ccl_Score___init__ : Value} {cdd_Score___init__ : Option Addr} {cvs_Score___init__ : Array Value} {csl_Score___init__ : Array (Option Value)}
    {f__law_tape : Addr} {od__law_tape an__law_tape : Option Addr} {sl__law_tape : Array (Option Value)} {oc__law_tape kV__law_tape dc__law_tape pm__law_tape ct__law_tape cd__law_tape : Value}
    {f__law_take : Addr} {od__law_take an__law_take : Option Addr} {sl__law_take : Array (Option Value)} {oc__law_take kV__law_take dc__law_take pm__law_take ct__law_take cd__law_take : Value}
    {f__law_number : Addr} {od__law_number an__law_number : Option Addr} {sl__law_number : Array (Option Value)} {oc__law_number kV__law_number dc__law_number pm__law_number ct__law_number cd__law_number : Value}
    {f__law_value : Addr} {od__law_value an__law_value : Option Addr} {sl__law_value : Array (Option Value)} {oc__law_value kV__law_value dc__law_value pm__law_value ct__law_value cd__law_value : Value}
    {f__law_two : Addr} {od__law_two an__law_two : Option Addr} {sl__law_two : Array (Option Value)} {oc__law_two kV__law_two dc__law_two pm__law_two ct__law_two cd__law_two : Value}
    {f__law_statement : Addr} {od__law_statement an__law_statement : Option Addr} {sl__law_statement : Array (Option Value)} {oc__law_statement kV__law_statement dc__law_statement pm__law_statement ct__law_statement cd__law_statement : Value}
    {f__law_block : Addr} {od__law_block an__law_block : Option Addr} {sl__law_block : Array (Option Value)} {oc__law_block kV__law_block dc__law_block pm__law_block ct__law_block cd__law_block : Value}
    {f__law_tree : Addr} {od__law_tree an__law_tree : Option Addr} {sl__law_tree : Array (Option Value)} {oc__law_tree kV__law_tree dc__law_tree pm__law_tree ct__law_tree cd__law_tree : Value}
    {f__law_all : Addr} {od__law_all an__law_all : Option Addr} {sl__law_all : Array (Option Value)} {oc__law_all kV__law_all dc__law_all pm__law_all ct__law_all cd__law_all : Value}
    {f__law_double : Addr} {od__law_double an__law_double : Option Addr} {sl__law_double : Array (Option Value)} {oc__law_double kV__law_double dc__law_double pm__law_double ct__law_double cd__law_double : Value}
    {f__law_spoilt : Addr} {od__law_spoilt an__law_spoilt : Option Addr} {sl__law_spoilt : Array (Option Value)} {oc__law_spoilt kV__law_spoilt dc__law_spoilt pm__law_spoilt ct__law_spoilt cd__law_spoilt : Value}
    {f__law_long : Addr} {od__law_long an__law_long : Option Addr} {sl__law_long : Array (Option Value)} {oc__law_long kV__law_long dc__law_long pm__law_long ct__law_long cd__law_long : Value}
    {f__law_statement_rule : Addr} {od__law_statement_rule an__law_statement_rule : Option Addr} {sl__law_statement_rule : Array (Option Value)} {oc__law_statement_rule kV__law_statement_rule dc__law_statement_rule pm__law_statement_rule ct__law_statement_rule cd__law_statement_rule : Value}
    {f__law_calls : Addr} {od__law_calls an__law_calls : Option Addr} {sl__law_calls : Array (Option Value)} {oc__law_calls kV__law_calls dc__law_calls pm__law_calls ct__law_calls cd__law_calls : Value}
    {f__law_circle : Addr} {od__law_circle an__law_circle : Option Addr} {sl__law_circle : Array (Option Value)} {oc__law_circle kV__law_circle dc__law_circle pm__law_circle ct__law_circle cd__law_circle : Value}
    {f__law_measure : Addr} {od__law_measure an__law_measure : Option Addr} {sl__law_measure : Array (Option Value)} {oc__law_measure kV__law_measure dc__law_measure pm__law_measure ct__law_measure cd__law_measure : Value}
    {f__law_rule : Addr} {od__law_rule an__law_rule : Option Addr} {sl__law_rule : Array (Option Value)} {oc__law_rule kV__law_rule dc__law_rule pm__law_rule ct__law_rule cd__law_rule : Value}
    {f__law_told : Addr} {od__law_told an__law_told : Option Addr} {sl__law_told : Array (Option Value)} {oc__law_told kV__law_told dc__law_told pm__law_told ct__law_told cd__law_told : Value}
    {f_law : Addr} {od_law an_law : Option Addr} {sl_law : Array (Option Value)} {oc_law kV_law dc_law pm_law ct_law cd_law : Value}
    {t_MOST_ENDS : Tok}
    {t_MOST_LOOPS : Tok}
    {t_MOST_STATEMENTS : Tok}
    {t_WHOLE : Tok}
    {d_VALUE_PLACES : Addr} {es_VALUE_PLACES : Array DictEntry} {n_VALUE_PLACES : Nat}
    {nm_InvalidScore q_InvalidScore : Str} {NS_InvalidScore : Addr} {bs_InvalidScore : List Value} {sn_InvalidScore : List Str} {sub_InvalidScore : List Value} {ab_InvalidScore : Bool} {col_InvalidScore : Option Bool} {dd_InvalidScore : Option Addr} {m0_InvalidScore m1_InvalidScore m2_InvalidScore m3_InvalidScore m5_InvalidScore : Option Value} {SE_InvalidScore : Addr} {fS_InvalidScore cda_InvalidScore cc_InvalidScore : Addr} {od_InvalidScore an_InvalidScore cdd_InvalidScore cld_InvalidScore : Option Addr} {osl_InvalidScore ccs_InvalidScore csl_InvalidScore : Array (Option Value)} {oc_InvalidScore kV_InvalidScore dc_InvalidScore pm_InvalidScore ct_InvalidScore ccl_InvalidScore cl_InvalidScore : Value} {vs2_InvalidScore : Array Value} {file_InvalidScore : Str} {tf_InvalidScore : Tok} {cd_InvalidScore : ClassData}
    {C_ScoreError : Addr}
    (aC_InvalidScore : PySem.W.nsIn K mainGlobals "InvalidScore" = some (some (.ref C_InvalidScore)))
    (aC_Score : PySem.W.nsIn K mainGlobals "Score" = some (some (.ref C_Score)))
    (pg_Score : PySem.W.plainGet K C_Score Str.empty = true)
    (hd_Score : PySem.W.hasDictIn K C_Score = true)
    (po_Score : PySem.W.plainOver K C_Score = true)
    (sa_Score : PySem.W.findIn K (.ref C_Score) "__setattr__" = some (some (.builtin "object.__setattr__")))
    (mk_Score : PySem.W.makesIn K C_Score = true)
    (kc_Score : PySem.W.keepIn K (.ref C_Score) = true)
    (nends_Score : PySem.W.findIn K (.ref C_Score) "ends" = some none)
    (nstatements_Score : PySem.W.findIn K (.ref C_Score) "statements" = some none)
    (nnext_Score : PySem.W.findIn K (.ref C_Score) "next" = some none)
    (nvalue_numbers_Score : PySem.W.findIn K (.ref C_Score) "value_numbers" = some none)
    (a_key_of : PySem.W.nsIn K mainGlobals "key_of" = some (some (.ref f_key_of)))
    (l_key_of : K.lookup f_key_of = some ⟨oc_key_of, od_key_of, .func (PySem.W.fnOf "key_of" "key_of" (defArgs s_key_of) (defBody s_key_of) (defScope s_key_of) .none kV_key_of dc_key_of pm_key_of an_key_of cd_key_of ct_key_of), sl_key_of⟩)
    (c_key_of : PySem.W.codeIn K cd_key_of "key_of" = true)
    (k_key_of : PySem.W.keepIn K (.ref f_key_of) = true)
    (a_numbered : PySem.W.nsIn K mainGlobals "numbered" = some (some (.ref f_numbered)))
    (l_numbered : K.lookup f_numbered = some ⟨oc_numbered, od_numbered, .func (PySem.W.fnOf "numbered" "numbered" (defArgs s_numbered) (defBody s_numbered) (defScope s_numbered) .none kV_numbered dc_numbered pm_numbered an_numbered cd_numbered ct_numbered), sl_numbered⟩)
    (c_numbered : PySem.W.codeIn K cd_numbered "numbered" = true)
    (k_numbered : PySem.W.keepIn K (.ref f_numbered) = true)
    (a_inner_blocks : PySem.W.nsIn K mainGlobals "inner_blocks" = some (some (.ref f_inner_blocks)))
    (l_inner_blocks : K.lookup f_inner_blocks = some ⟨oc_inner_blocks, od_inner_blocks, .func (PySem.W.fnOf "inner_blocks" "inner_blocks" (defArgs s_inner_blocks) (defBody s_inner_blocks) (defScope s_inner_blocks) .none kV_inner_blocks dc_inner_blocks pm_inner_blocks an_inner_blocks cd_inner_blocks ct_inner_blocks), sl_inner_blocks⟩)
    (c_inner_blocks : PySem.W.codeIn K cd_inner_blocks "inner_blocks" = true)
    (k_inner_blocks : PySem.W.keepIn K (.ref f_inner_blocks) = true)
    (a_listed : PySem.W.nsIn K mainGlobals "listed" = some (some (.ref f_listed)))
    (l_listed : K.lookup f_listed = some ⟨oc_listed, od_listed, .func (PySem.W.fnOf "listed" "listed" (defArgs s_listed) (defBody s_listed) (defScope s_listed) .none kV_listed dc_listed pm_listed an_listed cd_listed ct_listed), sl_listed⟩)
    (c_listed : PySem.W.codeIn K cd_listed "listed" = true)
    (k_listed : PySem.W.keepIn K (.ref f_listed) = true)
    (a_are_different : PySem.W.nsIn K mainGlobals "are_different" = some (some (.ref f_are_different)))
    (l_are_different : K.lookup f_are_different = some ⟨oc_are_different, od_are_different, .func (PySem.W.fnOf "are_different" "are_different" (defArgs s_are_different) (defBody s_are_different) (defScope s_are_different) .none kV_are_different dc_are_different pm_are_different an_are_different cd_are_different ct_are_different), sl_are_different⟩)
    (c_are_different : PySem.W.codeIn K cd_are_different "are_different" = true)
    (k_are_different : PySem.W.keepIn K (.ref f_are_different) = true)
    (a_ends_of : PySem.W.nsIn K mainGlobals "ends_of" = some (some (.ref f_ends_of)))
    (l_ends_of : K.lookup f_ends_of = some ⟨oc_ends_of, od_ends_of, .func (PySem.W.fnOf "ends_of" "ends_of" (defArgs s_ends_of) (defBody s_ends_of) (defScope s_ends_of) .none kV_ends_of dc_ends_of pm_ends_of an_ends_of cd_ends_of ct_ends_of), sl_ends_of⟩)
    (c_ends_of : PySem.W.codeIn K cd_ends_of "ends_of" = true)
    (k_ends_of : PySem.W.keepIn K (.ref f_ends_of) = true)
    (a_is_right_call : PySem.W.nsIn K mainGlobals "is_right_call" = some (some (.ref f_is_right_call)))
    (l_is_right_call : K.lookup f_is_right_call = some ⟨oc_is_right_call, od_is_right_call, .func (PySem.W.fnOf "is_right_call" "is_right_call" (defArgs s_is_right_call) (defBody s_is_right_call) (defScope s_is_right_call) .none kV_is_right_call dc_is_right_call pm_is_right_call an_is_right_call cd_is_right_call ct_is_right_call), sl_is_right_call⟩)
    (c_is_right_call : PySem.W.codeIn K cd_is_right_call "is_right_call" = true)
    (k_is_right_call : PySem.W.keepIn K (.ref f_is_right_call) = true)
    (a_check_names : PySem.W.nsIn K mainGlobals "check_names" = some (some (.ref f_check_names)))
    (l_check_names : K.lookup f_check_names = some ⟨oc_check_names, od_check_names, .func (PySem.W.fnOf "check_names" "check_names" (defArgs s_check_names) (defBody s_check_names) (defScope s_check_names) .none kV_check_names dc_check_names pm_check_names an_check_names cd_check_names ct_check_names), sl_check_names⟩)
    (c_check_names : PySem.W.codeIn K cd_check_names "check_names" = true)
    (k_check_names : PySem.W.keepIn K (.ref f_check_names) = true)
    (a_check_statement : PySem.W.nsIn K mainGlobals "check_statement" = some (some (.ref f_check_statement)))
    (l_check_statement : K.lookup f_check_statement = some ⟨oc_check_statement, od_check_statement, .func (PySem.W.fnOf "check_statement" "check_statement" (defArgs s_check_statement) (defBody s_check_statement) (defScope s_check_statement) .none kV_check_statement dc_check_statement pm_check_statement an_check_statement cd_check_statement ct_check_statement), sl_check_statement⟩)
    (c_check_statement : PySem.W.codeIn K cd_check_statement "check_statement" = true)
    (k_check_statement : PySem.W.keepIn K (.ref f_check_statement) = true)
    (a_check_block : PySem.W.nsIn K mainGlobals "check_block" = some (some (.ref f_check_block)))
    (l_check_block : K.lookup f_check_block = some ⟨oc_check_block, od_check_block, .func (PySem.W.fnOf "check_block" "check_block" (defArgs s_check_block) (defBody s_check_block) (defScope s_check_block) .none kV_check_block dc_check_block pm_check_block an_check_block cd_check_block ct_check_block), sl_check_block⟩)
    (c_check_block : PySem.W.codeIn K cd_check_block "check_block" = true)
    (k_check_block : PySem.W.keepIn K (.ref f_check_block) = true)
    (a_played_size : PySem.W.nsIn K mainGlobals "played_size" = some (some (.ref f_played_size)))
    (l_played_size : K.lookup f_played_size = some ⟨oc_played_size, od_played_size, .func (PySem.W.fnOf "played_size" "played_size" (defArgs s_played_size) (defBody s_played_size) (defScope s_played_size) .none kV_played_size dc_played_size pm_played_size an_played_size cd_played_size ct_played_size), sl_played_size⟩)
    (c_played_size : PySem.W.codeIn K cd_played_size "played_size" = true)
    (k_played_size : PySem.W.keepIn K (.ref f_played_size) = true)
    (a_part_sizes : PySem.W.nsIn K mainGlobals "part_sizes" = some (some (.ref f_part_sizes)))
    (l_part_sizes : K.lookup f_part_sizes = some ⟨oc_part_sizes, od_part_sizes, .func (PySem.W.fnOf "part_sizes" "part_sizes" (defArgs s_part_sizes) (defBody s_part_sizes) (defScope s_part_sizes) .none kV_part_sizes dc_part_sizes pm_part_sizes an_part_sizes cd_part_sizes ct_part_sizes), sl_part_sizes⟩)
    (c_part_sizes : PySem.W.codeIn K cd_part_sizes "part_sizes" = true)
    (k_part_sizes : PySem.W.keepIn K (.ref f_part_sizes) = true)
    (a_check_tree : PySem.W.nsIn K mainGlobals "check_tree" = some (some (.ref f_check_tree)))
    (l_check_tree : K.lookup f_check_tree = some ⟨oc_check_tree, od_check_tree, .func (PySem.W.fnOf "check_tree" "check_tree" (defArgs s_check_tree) (defBody s_check_tree) (defScope s_check_tree) .none kV_check_tree dc_check_tree pm_check_tree an_check_tree cd_check_tree ct_check_tree), sl_check_tree⟩)
    (c_check_tree : PySem.W.codeIn K cd_check_tree "check_tree" = true)
    (k_check_tree : PySem.W.keepIn K (.ref f_check_tree) = true)
    (a_renamed : PySem.W.nsIn K mainGlobals "renamed" = some (some (.ref f_renamed)))
    (l_renamed : K.lookup f_renamed = some ⟨oc_renamed, od_renamed, .func (PySem.W.fnOf "renamed" "renamed" (defArgs s_renamed) (defBody s_renamed) (defScope s_renamed) .none kV_renamed dc_renamed pm_renamed an_renamed cd_renamed ct_renamed), sl_renamed⟩)
    (c_renamed : PySem.W.codeIn K cd_renamed "renamed" = true)
    (k_renamed : PySem.W.keepIn K (.ref f_renamed) = true)
    (a_tasks : PySem.W.nsIn K mainGlobals "tasks" = some (some (.ref f_tasks)))
    (l_tasks : K.lookup f_tasks = some ⟨oc_tasks, od_tasks, .func (PySem.W.fnOf "tasks" "tasks" (defArgs s_tasks) (defBody s_tasks) (defScope s_tasks) .none kV_tasks dc_tasks pm_tasks an_tasks cd_tasks ct_tasks), sl_tasks⟩)
    (c_tasks : PySem.W.codeIn K cd_tasks "tasks" = true)
    (k_tasks : PySem.W.keepIn K (.ref f_tasks) = true)
    (a_call_tasks : PySem.W.nsIn K mainGlobals "call_tasks" = some (some (.ref f_call_tasks)))
    (l_call_tasks : K.lookup f_call_tasks = some ⟨oc_call_tasks, od_call_tasks, .func (PySem.W.fnOf "call_tasks" "call_tasks" (defArgs s_call_tasks) (defBody s_call_tasks) (defScope s_call_tasks) .none kV_call_tasks dc_call_tasks pm_call_tasks an_call_tasks cd_call_tasks ct_call_tasks), sl_call_tasks⟩)
    (c_call_tasks : PySem.W.codeIn K cd_call_tasks "call_tasks" = true)
    (k_call_tasks : PySem.W.keepIn K (.ref f_call_tasks) = true)
    (a_played_rows : PySem.W.nsIn K mainGlobals "played_rows" = some (some (.ref f_played_rows)))
    (l_played_rows : K.lookup f_played_rows = some ⟨oc_played_rows, od_played_rows, .func (PySem.W.fnOf "played_rows" "played_rows" (defArgs s_played_rows) (defBody s_played_rows) (defScope s_played_rows) .none kV_played_rows dc_played_rows pm_played_rows an_played_rows cd_played_rows ct_played_rows), sl_played_rows⟩)
    (c_played_rows : PySem.W.codeIn K cd_played_rows "played_rows" = true)
    (k_played_rows : PySem.W.keepIn K (.ref f_played_rows) = true)
    (a_next_position : PySem.W.nsIn K mainGlobals "next_position" = some (some (.ref f_next_position)))
    (l_next_position : K.lookup f_next_position = some ⟨oc_next_position, od_next_position, .func (PySem.W.fnOf "next_position" "next_position" (defArgs s_next_position) (defBody s_next_position) (defScope s_next_position) .none kV_next_position dc_next_position pm_next_position an_next_position cd_next_position ct_next_position), sl_next_position⟩)
    (c_next_position : PySem.W.codeIn K cd_next_position "next_position" = true)
    (k_next_position : PySem.W.keepIn K (.ref f_next_position) = true)
    (a_next_positions : PySem.W.nsIn K mainGlobals "next_positions" = some (some (.ref f_next_positions)))
    (l_next_positions : K.lookup f_next_positions = some ⟨oc_next_positions, od_next_positions, .func (PySem.W.fnOf "next_positions" "next_positions" (defArgs s_next_positions) (defBody s_next_positions) (defScope s_next_positions) .none kV_next_positions dc_next_positions pm_next_positions an_next_positions cd_next_positions ct_next_positions), sl_next_positions⟩)
    (c_next_positions : PySem.W.codeIn K cd_next_positions "next_positions" = true)
    (k_next_positions : PySem.W.keepIn K (.ref f_next_positions) = true)
    (a_value_of : PySem.W.nsIn K mainGlobals "value_of" = some (some (.ref f_value_of)))
    (l_value_of : K.lookup f_value_of = some ⟨oc_value_of, od_value_of, .func (PySem.W.fnOf "value_of" "value_of" (defArgs s_value_of) (defBody s_value_of) (defScope s_value_of) .none kV_value_of dc_value_of pm_value_of an_value_of cd_value_of ct_value_of), sl_value_of⟩)
    (c_value_of : PySem.W.codeIn K cd_value_of "value_of" = true)
    (k_value_of : PySem.W.keepIn K (.ref f_value_of) = true)
    (a_Score___init__ : PySem.W.findIn K (.ref C_Score) "__init__" = some (some (.ref f_Score___init__)))
    (i_Score___init__ : PySem.W.isFn K (.ref f_Score___init__) = true)
    (l_Score___init__ : K.lookup f_Score___init__ = some ⟨oc_Score___init__, od_Score___init__, .func (PySem.W.fnOf "__init__" "Score.__init__" (defArgs s_Score___init__) (defBody s_Score___init__) (defScope s_Score___init__) .none kV_Score___init__ dc_Score___init__ pm_Score___init__ an_Score___init__ (.ref cc_Score___init__) ct_Score___init__), sl_Score___init__⟩)
    (c_Score___init__ : PySem.W.codeIn K (.ref cc_Score___init__) "Score.__init__" = true)
    (k_Score___init__ : PySem.W.keepIn K (.ref f_Score___init__) = true)
    (co_Score___init__ : K.lookup cc_Score___init__ = some ⟨ccl_Score___init__, cdd_Score___init__, .fields cvs_Score___init__, csl_Score___init__⟩)
    (vG_Score___init__ : cvs_Score___init__[11]? = some (.ref PP_Score___init__))
    (nP_Score___init__ : K.lookup PP_Score___init__ = none)
    (hG_Score___init__ : PySem.W.codeHdIn K cc_Score___init__ PP_Score___init__ = true)
    (mP_Score___init__ : PP_Score___init__ ∈ ts)
    (a__law_tape : PySem.W.nsIn K mainGlobals "_law_tape" = some (some (.ref f__law_tape)))
    (l__law_tape : K.lookup f__law_tape = some ⟨oc__law_tape, od__law_tape, .func (PySem.W.fnOf "_law_tape" "_law_tape" (defArgs s__law_tape) (defBody s__law_tape) (defScope s__law_tape) .none kV__law_tape dc__law_tape pm__law_tape an__law_tape cd__law_tape ct__law_tape), sl__law_tape⟩)
    (c__law_tape : PySem.W.codeIn K cd__law_tape "_law_tape" = true)
    (k__law_tape : PySem.W.keepIn K (.ref f__law_tape) = true)
    (a__law_take : PySem.W.nsIn K mainGlobals "_law_take" = some (some (.ref f__law_take)))
    (l__law_take : K.lookup f__law_take = some ⟨oc__law_take, od__law_take, .func (PySem.W.fnOf "_law_take" "_law_take" (defArgs s__law_take) (defBody s__law_take) (defScope s__law_take) .none kV__law_take dc__law_take pm__law_take an__law_take cd__law_take ct__law_take), sl__law_take⟩)
    (c__law_take : PySem.W.codeIn K cd__law_take "_law_take" = true)
    (k__law_take : PySem.W.keepIn K (.ref f__law_take) = true)
    (a__law_number : PySem.W.nsIn K mainGlobals "_law_number" = some (some (.ref f__law_number)))
    (l__law_number : K.lookup f__law_number = some ⟨oc__law_number, od__law_number, .func (PySem.W.fnOf "_law_number" "_law_number" (defArgs s__law_number) (defBody s__law_number) (defScope s__law_number) .none kV__law_number dc__law_number pm__law_number an__law_number cd__law_number ct__law_number), sl__law_number⟩)
    (c__law_number : PySem.W.codeIn K cd__law_number "_law_number" = true)
    (k__law_number : PySem.W.keepIn K (.ref f__law_number) = true)
    (a__law_value : PySem.W.nsIn K mainGlobals "_law_value" = some (some (.ref f__law_value)))
    (l__law_value : K.lookup f__law_value = some ⟨oc__law_value, od__law_value, .func (PySem.W.fnOf "_law_value" "_law_value" (defArgs s__law_value) (defBody s__law_value) (defScope s__law_value) .none kV__law_value dc__law_value pm__law_value an__law_value cd__law_value ct__law_value), sl__law_value⟩)
    (c__law_value : PySem.W.codeIn K cd__law_value "_law_value" = true)
    (k__law_value : PySem.W.keepIn K (.ref f__law_value) = true)
    (a__law_two : PySem.W.nsIn K mainGlobals "_law_two" = some (some (.ref f__law_two)))
    (l__law_two : K.lookup f__law_two = some ⟨oc__law_two, od__law_two, .func (PySem.W.fnOf "_law_two" "_law_two" (defArgs s__law_two) (defBody s__law_two) (defScope s__law_two) .none kV__law_two dc__law_two pm__law_two an__law_two cd__law_two ct__law_two), sl__law_two⟩)
    (c__law_two : PySem.W.codeIn K cd__law_two "_law_two" = true)
    (k__law_two : PySem.W.keepIn K (.ref f__law_two) = true)
    (a__law_statement : PySem.W.nsIn K mainGlobals "_law_statement" = some (some (.ref f__law_statement)))
    (l__law_statement : K.lookup f__law_statement = some ⟨oc__law_statement, od__law_statement, .func (PySem.W.fnOf "_law_statement" "_law_statement" (defArgs s__law_statement) (defBody s__law_statement) (defScope s__law_statement) .none kV__law_statement dc__law_statement pm__law_statement an__law_statement cd__law_statement ct__law_statement), sl__law_statement⟩)
    (c__law_statement : PySem.W.codeIn K cd__law_statement "_law_statement" = true)
    (k__law_statement : PySem.W.keepIn K (.ref f__law_statement) = true)
    (a__law_block : PySem.W.nsIn K mainGlobals "_law_block" = some (some (.ref f__law_block)))
    (l__law_block : K.lookup f__law_block = some ⟨oc__law_block, od__law_block, .func (PySem.W.fnOf "_law_block" "_law_block" (defArgs s__law_block) (defBody s__law_block) (defScope s__law_block) .none kV__law_block dc__law_block pm__law_block an__law_block cd__law_block ct__law_block), sl__law_block⟩)
    (c__law_block : PySem.W.codeIn K cd__law_block "_law_block" = true)
    (k__law_block : PySem.W.keepIn K (.ref f__law_block) = true)
    (a__law_tree : PySem.W.nsIn K mainGlobals "_law_tree" = some (some (.ref f__law_tree)))
    (l__law_tree : K.lookup f__law_tree = some ⟨oc__law_tree, od__law_tree, .func (PySem.W.fnOf "_law_tree" "_law_tree" (defArgs s__law_tree) (defBody s__law_tree) (defScope s__law_tree) .none kV__law_tree dc__law_tree pm__law_tree an__law_tree cd__law_tree ct__law_tree), sl__law_tree⟩)
    (c__law_tree : PySem.W.codeIn K cd__law_tree "_law_tree" = true)
    (k__law_tree : PySem.W.keepIn K (.ref f__law_tree) = true)
    (a__law_all : PySem.W.nsIn K mainGlobals "_law_all" = some (some (.ref f__law_all)))
    (l__law_all : K.lookup f__law_all = some ⟨oc__law_all, od__law_all, .func (PySem.W.fnOf "_law_all" "_law_all" (defArgs s__law_all) (defBody s__law_all) (defScope s__law_all) .none kV__law_all dc__law_all pm__law_all an__law_all cd__law_all ct__law_all), sl__law_all⟩)
    (c__law_all : PySem.W.codeIn K cd__law_all "_law_all" = true)
    (k__law_all : PySem.W.keepIn K (.ref f__law_all) = true)
    (a__law_double : PySem.W.nsIn K mainGlobals "_law_double" = some (some (.ref f__law_double)))
    (l__law_double : K.lookup f__law_double = some ⟨oc__law_double, od__law_double, .func (PySem.W.fnOf "_law_double" "_law_double" (defArgs s__law_double) (defBody s__law_double) (defScope s__law_double) .none kV__law_double dc__law_double pm__law_double an__law_double cd__law_double ct__law_double), sl__law_double⟩)
    (c__law_double : PySem.W.codeIn K cd__law_double "_law_double" = true)
    (k__law_double : PySem.W.keepIn K (.ref f__law_double) = true)
    (a__law_spoilt : PySem.W.nsIn K mainGlobals "_law_spoilt" = some (some (.ref f__law_spoilt)))
    (l__law_spoilt : K.lookup f__law_spoilt = some ⟨oc__law_spoilt, od__law_spoilt, .func (PySem.W.fnOf "_law_spoilt" "_law_spoilt" (defArgs s__law_spoilt) (defBody s__law_spoilt) (defScope s__law_spoilt) .none kV__law_spoilt dc__law_spoilt pm__law_spoilt an__law_spoilt cd__law_spoilt ct__law_spoilt), sl__law_spoilt⟩)
    (c__law_spoilt : PySem.W.codeIn K cd__law_spoilt "_law_spoilt" = true)
    (k__law_spoilt : PySem.W.keepIn K (.ref f__law_spoilt) = true)
    (a__law_long : PySem.W.nsIn K mainGlobals "_law_long" = some (some (.ref f__law_long)))
    (l__law_long : K.lookup f__law_long = some ⟨oc__law_long, od__law_long, .func (PySem.W.fnOf "_law_long" "_law_long" (defArgs s__law_long) (defBody s__law_long) (defScope s__law_long) .none kV__law_long dc__law_long pm__law_long an__law_long cd__law_long ct__law_long), sl__law_long⟩)
    (c__law_long : PySem.W.codeIn K cd__law_long "_law_long" = true)
    (k__law_long : PySem.W.keepIn K (.ref f__law_long) = true)
    (a__law_statement_rule : PySem.W.nsIn K mainGlobals "_law_statement_rule" = some (some (.ref f__law_statement_rule)))
    (l__law_statement_rule : K.lookup f__law_statement_rule = some ⟨oc__law_statement_rule, od__law_statement_rule, .func (PySem.W.fnOf "_law_statement_rule" "_law_statement_rule" (defArgs s__law_statement_rule) (defBody s__law_statement_rule) (defScope s__law_statement_rule) .none kV__law_statement_rule dc__law_statement_rule pm__law_statement_rule an__law_statement_rule cd__law_statement_rule ct__law_statement_rule), sl__law_statement_rule⟩)
    (c__law_statement_rule : PySem.W.codeIn K cd__law_statement_rule "_law_statement_rule" = true)
    (k__law_statement_rule : PySem.W.keepIn K (.ref f__law_statement_rule) = true)
    (a__law_calls : PySem.W.nsIn K mainGlobals "_law_calls" = some (some (.ref f__law_calls)))
    (l__law_calls : K.lookup f__law_calls = some ⟨oc__law_calls, od__law_calls, .func (PySem.W.fnOf "_law_calls" "_law_calls" (defArgs s__law_calls) (defBody s__law_calls) (defScope s__law_calls) .none kV__law_calls dc__law_calls pm__law_calls an__law_calls cd__law_calls ct__law_calls), sl__law_calls⟩)
    (c__law_calls : PySem.W.codeIn K cd__law_calls "_law_calls" = true)
    (k__law_calls : PySem.W.keepIn K (.ref f__law_calls) = true)
    (a__law_circle : PySem.W.nsIn K mainGlobals "_law_circle" = some (some (.ref f__law_circle)))
    (l__law_circle : K.lookup f__law_circle = some ⟨oc__law_circle, od__law_circle, .func (PySem.W.fnOf "_law_circle" "_law_circle" (defArgs s__law_circle) (defBody s__law_circle) (defScope s__law_circle) .none kV__law_circle dc__law_circle pm__law_circle an__law_circle cd__law_circle ct__law_circle), sl__law_circle⟩)
    (c__law_circle : PySem.W.codeIn K cd__law_circle "_law_circle" = true)
    (k__law_circle : PySem.W.keepIn K (.ref f__law_circle) = true)
    (a__law_measure : PySem.W.nsIn K mainGlobals "_law_measure" = some (some (.ref f__law_measure)))
    (l__law_measure : K.lookup f__law_measure = some ⟨oc__law_measure, od__law_measure, .func (PySem.W.fnOf "_law_measure" "_law_measure" (defArgs s__law_measure) (defBody s__law_measure) (defScope s__law_measure) .none kV__law_measure dc__law_measure pm__law_measure an__law_measure cd__law_measure ct__law_measure), sl__law_measure⟩)
    (c__law_measure : PySem.W.codeIn K cd__law_measure "_law_measure" = true)
    (k__law_measure : PySem.W.keepIn K (.ref f__law_measure) = true)
    (a__law_rule : PySem.W.nsIn K mainGlobals "_law_rule" = some (some (.ref f__law_rule)))
    (l__law_rule : K.lookup f__law_rule = some ⟨oc__law_rule, od__law_rule, .func (PySem.W.fnOf "_law_rule" "_law_rule" (defArgs s__law_rule) (defBody s__law_rule) (defScope s__law_rule) .none kV__law_rule dc__law_rule pm__law_rule an__law_rule cd__law_rule ct__law_rule), sl__law_rule⟩)
    (c__law_rule : PySem.W.codeIn K cd__law_rule "_law_rule" = true)
    (k__law_rule : PySem.W.keepIn K (.ref f__law_rule) = true)
    (a__law_told : PySem.W.nsIn K mainGlobals "_law_told" = some (some (.ref f__law_told)))
    (l__law_told : K.lookup f__law_told = some ⟨oc__law_told, od__law_told, .func (PySem.W.fnOf "_law_told" "_law_told" (defArgs s__law_told) (defBody s__law_told) (defScope s__law_told) .none kV__law_told dc__law_told pm__law_told an__law_told cd__law_told ct__law_told), sl__law_told⟩)
    (c__law_told : PySem.W.codeIn K cd__law_told "_law_told" = true)
    (k__law_told : PySem.W.keepIn K (.ref f__law_told) = true)
    (a_law : PySem.W.nsIn K mainGlobals "law" = some (some (.ref f_law)))
    (l_law : K.lookup f_law = some ⟨oc_law, od_law, .func (PySem.W.fnOf "law" "law" (defArgs s_law) (defBody s_law) (defScope s_law) .none kV_law dc_law pm_law an_law cd_law ct_law), sl_law⟩)
    (c_law : PySem.W.codeIn K cd_law "law" = true)
    (k_law : PySem.W.keepIn K (.ref f_law) = true)
    (x_MOST_ENDS : PySem.W.nsIn K mainGlobals "MOST_ENDS" = some (some (.int 6 t_MOST_ENDS)))
    (x_MOST_LOOPS : PySem.W.nsIn K mainGlobals "MOST_LOOPS" = some (some (.int 3 t_MOST_LOOPS)))
    (x_MOST_STATEMENTS : PySem.W.nsIn K mainGlobals "MOST_STATEMENTS" = some (some (.int 150 t_MOST_STATEMENTS)))
    (x_WHOLE : PySem.W.nsIn K mainGlobals "WHOLE" = some (some (.int (-1) t_WHOLE)))
    (z_len : PySem.W.nsIn K mainGlobals "len" = some none)
    (z_abs : PySem.W.nsIn K mainGlobals "abs" = some none)
    (z_int : PySem.W.nsIn K mainGlobals "int" = some none)
    (z_bool : PySem.W.nsIn K mainGlobals "bool" = some none)
    (z_str : PySem.W.nsIn K mainGlobals "str" = some none)
    (z_list : PySem.W.nsIn K mainGlobals "list" = some none)
    (z_tuple : PySem.W.nsIn K mainGlobals "tuple" = some none)
    (z_dict : PySem.W.nsIn K mainGlobals "dict" = some none)
    (z_isinstance : PySem.W.nsIn K mainGlobals "isinstance" = some none)
    (z_range : PySem.W.nsIn K mainGlobals "range" = some none)
    (z_set : PySem.W.nsIn K mainGlobals "set" = some none)
    (z_zip : PySem.W.nsIn K mainGlobals "zip" = some none)
    (z_all : PySem.W.nsIn K mainGlobals "all" = some none)
    (z_max : PySem.W.nsIn K mainGlobals "max" = some none)
    (z_sorted : PySem.W.nsIn K mainGlobals "sorted" = some none)
    (z_reversed : PySem.W.nsIn K mainGlobals "reversed" = some none)
    (z_enumerate : PySem.W.nsIn K mainGlobals "enumerate" = some none)
    (z_super : PySem.W.nsIn K mainGlobals "super" = some none)
    (x_VALUE_PLACES : PySem.W.nsIn K mainGlobals "VALUE_PLACES" = some (some (.ref d_VALUE_PLACES)))
    (y_VALUE_PLACES : K.lookup d_VALUE_PLACES = some ⟨.type "dict", none, .dict es_VALUE_PLACES n_VALUE_PLACES, #[]⟩)
    (g_DVALUE_PLACES : PySem.W.KeysLit w.params es_VALUE_PLACES.toList)
    (f_DVALUE_PLACES : IEnts es_VALUE_PLACES.toList placesW)
    (s_DVALUE_PLACES : (d_VALUE_PLACES == sysModules) = false)
    (ex_InvalidScore : K.lookup C_InvalidScore = some (excClassObj nm_InvalidScore q_InvalidScore C_InvalidScore NS_InvalidScore bs_InvalidScore [.ref SE_InvalidScore, .type "ValueError", .type "Exception", .type "BaseException", .type "object"] true sn_InvalidScore sub_InvalidScore ab_InvalidScore col_InvalidScore dd_InvalidScore m0_InvalidScore m1_InvalidScore m2_InvalidScore m3_InvalidScore m5_InvalidScore "ValueError.__new__"))
    (esa_InvalidScore : PySem.W.findIn K (.ref C_InvalidScore) "__setattr__" = some (some (.builtin "object.__setattr__")))
    (ega_InvalidScore : PySem.W.findIn K (.ref C_InvalidScore) "__getattribute__" = some (some (.builtin "BaseException.__getattribute__")))
    (egg_InvalidScore : PySem.W.findIn K (.ref C_InvalidScore) "__getattr__" = some none)
    (eno_InvalidScore : PySem.W.findIn K (.ref C_InvalidScore) "rule" = some none)
    (ee_InvalidScore : PySem.W.subIn K (.ref C_InvalidScore) (.type "BaseException") = some true)
    (et_InvalidScore : PySem.W.typeIn K (.ref C_InvalidScore) = some (.type "type"))
    (ek_InvalidScore : PySem.W.keepIn K (.ref C_InvalidScore) = true)
    (eh_InvalidScore : PySem.W.hasDictIn K C_InvalidScore = true)
    (ei_InvalidScore : PySem.W.isClsIn K C_InvalidScore = true)
    (ess_InvalidScore : PySem.W.subIn K (.ref C_InvalidScore) (.ref C_InvalidScore) = some true)
    (ein_InvalidScore : PySem.W.findIn K (.ref C_InvalidScore) "__init__" = some (some (.ref fS_InvalidScore)))
    (eti_InvalidScore : PySem.W.typeIn K (.ref fS_InvalidScore) = some (.type "function"))
    (el_InvalidScore : K.lookup fS_InvalidScore = some ⟨oc_InvalidScore, od_InvalidScore, .func (PySem.W.ksFn "__init__" "InvalidScore.__init__" (defArgs s_InvalidScore___init__) (defBody s_InvalidScore___init__) (defScope s_InvalidScore___init__) .none kV_InvalidScore dc_InvalidScore pm_InvalidScore an_InvalidScore (.ref cda_InvalidScore) ct_InvalidScore cc_InvalidScore), osl_InvalidScore⟩)
    (ec_InvalidScore : PySem.W.codeIn K (.ref cda_InvalidScore) "InvalidScore.__init__" = true)
    (eco_InvalidScore : K.lookup cda_InvalidScore = some ⟨ccl_InvalidScore, cdd_InvalidScore, .fields vs2_InvalidScore, ccs_InvalidScore⟩)
    (ev_InvalidScore : vs2_InvalidScore[2]? = some (.str file_InvalidScore tf_InvalidScore))
    (efi_InvalidScore : ((l.prog.main.file : Str) == file_InvalidScore) = true)
    (etop_InvalidScore : (l.prog.main.scope.names.lookup ("super" : Str)).isSome = false)
    (ece_InvalidScore : K.lookup cc_InvalidScore = some ⟨cl_InvalidScore, cld_InvalidScore, .cell (some (.ref C_InvalidScore)), csl_InvalidScore⟩)
    (ed_InvalidScore : PySem.W.clsIn K C_InvalidScore = some cd_InvalidScore)
    (emo_InvalidScore : PySem.W.mroIn K C_InvalidScore (.ref C_InvalidScore) = some true)
    (eany_InvalidScore : PySem.W.nsIn K cStatics "thirdparty.any" = some none)
    (esu_InvalidScore : PySem.W.ks_superIn K C_InvalidScore C_InvalidScore "__init__" = some (some (.builtin "ValueError.__init__")))
    (eve_InvalidScore : PySem.W.subIn K (.ref C_InvalidScore) (.type "ValueError") = some true)
    (aC_ScoreError : PySem.W.nsIn K mainGlobals "ScoreError" = some (some (.ref C_ScoreError)))
    (caS : PySem.W.findIn K (.ref C_InvalidScore) "__class__" = some (some (.builtin "object.__class__")))
    (spS : PySem.W.specialIn K (.builtin "object.__class__") "__get__" = some (some (.builtin "getset_descriptor.__get__")))
    (tkS : PySem.W.takesIn K (.builtin "object.__class__") = some true)
    (obS : PySem.W.mroIn K C_InvalidScore (.type "object") = some true)
    (isS : PySem.W.kitOne K (.ref C_InvalidScore) (.ref C_ScoreError) = some true) :
    LawAtS l w K CX0 43 63 "script" mg fa h := by
  have e := hfa.symm.trans (PySem.W.mg_of X G a_law)
  cases e
  have F_key_of := fun_mk (st := s_key_of) l_key_of c_key_of k_key_of
  have b_key_of := F_key_of.binds (ps := ["tree"]) fun _ _ _ _ _ _ us hl => match us, hl with | [_], _ => rfl
  have m_key_of := PySem.W.mg_of X G a_key_of
  have F_numbered := fun_mk (st := s_numbered) l_numbered c_numbered k_numbered
  have b_numbered := F_numbered.binds (ps := ["keys"]) fun _ _ _ _ _ _ us hl => match us, hl with | [_], _ => rfl
  have m_numbered := PySem.W.mg_of X G a_numbered
  have F_inner_blocks := fun_mk (st := s_inner_blocks) l_inner_blocks c_inner_blocks k_inner_blocks
  have b_inner_blocks := F_inner_blocks.binds (ps := ["statement"]) fun _ _ _ _ _ _ us hl => match us, hl with | [_], _ => rfl
  have m_inner_blocks := PySem.W.mg_of X G a_inner_blocks
  have F_listed := fun_mk (st := s_listed) l_listed c_listed k_listed
  have b_listed := F_listed.binds (ps := ["block"]) fun _ _ _ _ _ _ us hl => match us, hl with | [_], _ => rfl
  have m_listed := PySem.W.mg_of X G a_listed
  have F_are_different := fun_mk (st := s_are_different) l_are_different c_are_different k_are_different
  have b_are_different := F_are_different.binds (ps := ["names"]) fun _ _ _ _ _ _ us hl => match us, hl with | [_], _ => rfl
  have m_are_different := PySem.W.mg_of X G a_are_different
  have F_ends_of := fun_mk (st := s_ends_of) l_ends_of c_ends_of k_ends_of
  have b_ends_of := F_ends_of.binds (ps := ["statement"]) fun _ _ _ _ _ _ us hl => match us, hl with | [_], _ => rfl
  have m_ends_of := PySem.W.mg_of X G a_ends_of
  have F_is_right_call := fun_mk (st := s_is_right_call) l_is_right_call c_is_right_call k_is_right_call
  have b_is_right_call := F_is_right_call.binds (ps := ["statement", "counts"]) fun _ _ _ _ _ _ us hl => match us, hl with | [_, _], _ => rfl
  have m_is_right_call := PySem.W.mg_of X G a_is_right_call
  have F_check_names := fun_mk (st := s_check_names) l_check_names c_check_names k_check_names
  have b_check_names := F_check_names.binds (ps := ["ends", "parts"]) fun _ _ _ _ _ _ us hl => match us, hl with | [_, _], _ => rfl
  have m_check_names := PySem.W.mg_of X G a_check_names
  have F_check_statement := fun_mk (st := s_check_statement) l_check_statement c_check_statement k_check_statement
  have b_check_statement := F_check_statement.binds (ps := ["statement", "ends", "counts"]) fun _ _ _ _ _ _ us hl => match us, hl with | [_, _, _], _ => rfl
  have m_check_statement := PySem.W.mg_of X G a_check_statement
  have F_check_block := fun_mk (st := s_check_block) l_check_block c_check_block k_check_block
  have b_check_block := F_check_block.binds (ps := ["block", "ends", "counts"]) fun _ _ _ _ _ _ us hl => match us, hl with | [_, _, _], _ => rfl
  have m_check_block := PySem.W.mg_of X G a_check_block
  have F_played_size := fun_mk (st := s_played_size) l_played_size c_played_size k_played_size
  have b_played_size := F_played_size.binds (ps := ["block", "sizes"]) fun _ _ _ _ _ _ us hl => match us, hl with | [_, _], _ => rfl
  have m_played_size := PySem.W.mg_of X G a_played_size
  have F_part_sizes := fun_mk (st := s_part_sizes) l_part_sizes c_part_sizes k_part_sizes
  have b_part_sizes := F_part_sizes.binds (ps := ["parts"]) fun _ _ _ _ _ _ us hl => match us, hl with | [_], _ => rfl
  have m_part_sizes := PySem.W.mg_of X G a_part_sizes
  have F_check_tree := fun_mk (st := s_check_tree) l_check_tree c_check_tree k_check_tree
  have b_check_tree := F_check_tree.binds (ps := ["tree"]) fun _ _ _ _ _ _ us hl => match us, hl with | [_], _ => rfl
  have m_check_tree := PySem.W.mg_of X G a_check_tree
  have F_renamed := fun_mk (st := s_renamed) l_renamed c_renamed k_renamed
  have b_renamed := F_renamed.binds (ps := ["statement", "names"]) fun _ _ _ _ _ _ us hl => match us, hl with | [_, _], _ => rfl
  have m_renamed := PySem.W.mg_of X G a_renamed
  have F_tasks := fun_mk (st := s_tasks) l_tasks c_tasks k_tasks
  have b_tasks := F_tasks.binds (ps := ["block", "names", "owner", "branch"]) fun _ _ _ _ _ _ us hl => match us, hl with | [_, _, _, _], _ => rfl
  have m_tasks := PySem.W.mg_of X G a_tasks
  have F_call_tasks := fun_mk (st := s_call_tasks) l_call_tasks c_call_tasks k_call_tasks
  have b_call_tasks := F_call_tasks.binds (ps := ["statement", "names", "owner", "branch", "blocks"]) fun _ _ _ _ _ _ us hl => match us, hl with | [_, _, _, _, _], _ => rfl
  have m_call_tasks := PySem.W.mg_of X G a_call_tasks
  have F_played_rows := fun_mk (st := s_played_rows) l_played_rows c_played_rows k_played_rows
  have b_played_rows := F_played_rows.binds (ps := ["tree"]) fun _ _ _ _ _ _ us hl => match us, hl with | [_], _ => rfl
  have m_played_rows := PySem.W.mg_of X G a_played_rows
  have F_next_position := fun_mk (st := s_next_position) l_next_position c_next_position k_next_position
  have b_next_position := F_next_position.binds (ps := ["rows", "position", "followers", "behind"]) fun _ _ _ _ _ _ us hl => match us, hl with | [_, _, _, _], _ => rfl
  have m_next_position := PySem.W.mg_of X G a_next_position
  have F_next_positions := fun_mk (st := s_next_positions) l_next_positions c_next_positions k_next_positions
  have b_next_positions := F_next_positions.binds (ps := ["rows"]) fun _ _ _ _ _ _ us hl => match us, hl with | [_], _ => rfl
  have m_next_positions := PySem.W.mg_of X G a_next_positions
  have F_value_of := fun_mk (st := s_value_of) l_value_of c_value_of k_value_of
  have b_value_of := F_value_of.binds (ps := ["statement"]) fun _ _ _ _ _ _ us hl => match us, hl with | [_], _ => rfl
  have m_value_of := PySem.W.mg_of X G a_value_of
  have F_Score___init__ : FunC K "__init__" "Score.__init__" s_Score___init__ f_Score___init__ _ cc_Score___init__ := ⟨_, _, _, _, _, _, _, _, rfl, l_Score___init__, c_Score___init__⟩
  have b_Score___init__ : Binds K _ ["self", "tree"] [] := (fun_mk (st := s_Score___init__) l_Score___init__ c_Score___init__ k_Score___init__).binds (ps := ["self", "tree"]) fun _ _ _ _ _ _ us hl => match us, hl with | [_, _], _ => rfl
  have m_Score___init__ : Meth K C_Score "__init__" f_Score___init__ := ⟨a_Score___init__, i_Score___init__, k_Score___init__⟩
  have F__law_tape := fun_mk (st := s__law_tape) l__law_tape c__law_tape k__law_tape
  have b__law_tape := F__law_tape.binds (ps := ["script"]) fun _ _ _ _ _ _ us hl => match us, hl with | [_], _ => rfl
  have m__law_tape := PySem.W.mg_of X G a__law_tape
  have F__law_take := fun_mk (st := s__law_take) l__law_take c__law_take k__law_take
  have b__law_take := F__law_take.binds (ps := ["tape", "many"]) fun _ _ _ _ _ _ us hl => match us, hl with | [_, _], _ => rfl
  have m__law_take := PySem.W.mg_of X G a__law_take
  have F__law_number := fun_mk (st := s__law_number) l__law_number c__law_number k__law_number
  have b__law_number := F__law_number.binds (ps := ["tape"]) fun _ _ _ _ _ _ us hl => match us, hl with | [_], _ => rfl
  have m__law_number := PySem.W.mg_of X G a__law_number
  have F__law_value := fun_mk (st := s__law_value) l__law_value c__law_value k__law_value
  have b__law_value := F__law_value.binds (ps := ["tape", "depth"]) fun _ _ _ _ _ _ us hl => match us, hl with | [_, _], _ => rfl
  have m__law_value := PySem.W.mg_of X G a__law_value
  have F__law_two := fun_mk (st := s__law_two) l__law_two c__law_two k__law_two
  have b__law_two := F__law_two.binds (ps := ["tape", "ends"]) fun _ _ _ _ _ _ us hl => match us, hl with | [_, _], _ => rfl
  have m__law_two := PySem.W.mg_of X G a__law_two
  have F__law_statement := fun_mk (st := s__law_statement) l__law_statement c__law_statement k__law_statement
  have b__law_statement := F__law_statement.binds (ps := ["tape", "ends", "parts", "depth"]) fun _ _ _ _ _ _ us hl => match us, hl with | [_, _, _, _], _ => rfl
  have m__law_statement := PySem.W.mg_of X G a__law_statement
  have F__law_block := fun_mk (st := s__law_block) l__law_block c__law_block k__law_block
  have b__law_block := F__law_block.binds (ps := ["tape", "ends", "parts", "depth", "most"]) fun _ _ _ _ _ _ us hl => match us, hl with | [_, _, _, _, _], _ => rfl
  have m__law_block := PySem.W.mg_of X G a__law_block
  have F__law_tree := fun_mk (st := s__law_tree) l__law_tree c__law_tree k__law_tree
  have b__law_tree := F__law_tree.binds (ps := ["tape", "depth", "most"]) fun _ _ _ _ _ _ us hl => match us, hl with | [_, _, _], _ => rfl
  have m__law_tree := PySem.W.mg_of X G a__law_tree
  have F__law_all := fun_mk (st := s__law_all) l__law_all c__law_all k__law_all
  have b__law_all := F__law_all.binds (ps := ["block"]) fun _ _ _ _ _ _ us hl => match us, hl with | [_], _ => rfl
  have m__law_all := PySem.W.mg_of X G a__law_all
  have F__law_double := fun_mk (st := s__law_double) l__law_double c__law_double k__law_double
  have b__law_double := F__law_double.binds (ps := ["names"]) fun _ _ _ _ _ _ us hl => match us, hl with | [_], _ => rfl
  have m__law_double := PySem.W.mg_of X G a__law_double
  have F__law_spoilt := fun_mk (st := s__law_spoilt) l__law_spoilt c__law_spoilt k__law_spoilt
  have b__law_spoilt := F__law_spoilt.binds (ps := ["tape", "tree"]) fun _ _ _ _ _ _ us hl => match us, hl with | [_, _], _ => rfl
  have m__law_spoilt := PySem.W.mg_of X G a__law_spoilt
  have F__law_long := fun_mk (st := s__law_long) l__law_long c__law_long k__law_long
  have b__law_long := F__law_long.binds (ps := ["tape", "tree"]) fun _ _ _ _ _ _ us hl => match us, hl with | [_, _], _ => rfl
  have m__law_long := PySem.W.mg_of X G a__law_long
  have F__law_statement_rule := fun_mk (st := s__law_statement_rule) l__law_statement_rule c__law_statement_rule k__law_statement_rule
  have b__law_statement_rule := F__law_statement_rule.binds (ps := ["one", "ends", "parts"]) fun _ _ _ _ _ _ us hl => match us, hl with | [_, _, _], _ => rfl
  have m__law_statement_rule := PySem.W.mg_of X G a__law_statement_rule
  have F__law_calls := fun_mk (st := s__law_calls) l__law_calls c__law_calls k__law_calls
  have b__law_calls := F__law_calls.binds (ps := ["parts", "name"]) fun _ _ _ _ _ _ us hl => match us, hl with | [_, _], _ => rfl
  have m__law_calls := PySem.W.mg_of X G a__law_calls
  have F__law_circle := fun_mk (st := s__law_circle) l__law_circle c__law_circle k__law_circle
  have b__law_circle := F__law_circle.binds (ps := ["parts"]) fun _ _ _ _ _ _ us hl => match us, hl with | [_], _ => rfl
  have m__law_circle := PySem.W.mg_of X G a__law_circle
  have F__law_measure := fun_mk (st := s__law_measure) l__law_measure c__law_measure k__law_measure
  have b__law_measure := F__law_measure.binds (ps := ["block", "parts"]) fun _ _ _ _ _ _ us hl => match us, hl with | [_, _], _ => rfl
  have m__law_measure := PySem.W.mg_of X G a__law_measure
  have F__law_rule := fun_mk (st := s__law_rule) l__law_rule c__law_rule k__law_rule
  have b__law_rule := F__law_rule.binds (ps := ["tree"]) fun _ _ _ _ _ _ us hl => match us, hl with | [_], _ => rfl
  have m__law_rule := PySem.W.mg_of X G a__law_rule
  have F__law_told := fun_mk (st := s__law_told) l__law_told c__law_told k__law_told
  have b__law_told := F__law_told.binds (ps := ["tree", "whole"]) fun _ _ _ _ _ _ us hl => match us, hl with | [_, _], _ => rfl
  have m__law_told := PySem.W.mg_of X G a__law_told
  have F_law := fun_mk (st := s_law) l_law c_law k_law
  have b_law := F_law.binds (ps := ["script"]) fun _ _ _ _ _ _ us hl => match us, hl with | [_], _ => rfl
  have m_law := PySem.W.mg_of X G a_law
  have X_MOST_ENDS := PySem.W.mg_of X G x_MOST_ENDS
  have X_MOST_LOOPS := PySem.W.mg_of X G x_MOST_LOOPS
  have X_MOST_STATEMENTS := PySem.W.mg_of X G x_MOST_STATEMENTS
  have X_WHOLE := PySem.W.mg_of X G x_WHOLE
  have X_VALUE_PLACES := PySem.W.mg_of X G x_VALUE_PLACES
  have Z_len := PySem.W.mg_none_of X G z_len
  have Z_abs := PySem.W.mg_none_of X G z_abs
  have Z_int := PySem.W.mg_none_of X G z_int
  have Z_bool := PySem.W.mg_none_of X G z_bool
  have Z_str := PySem.W.mg_none_of X G z_str
  have Z_list := PySem.W.mg_none_of X G z_list
  have Z_tuple := PySem.W.mg_none_of X G z_tuple
  have Z_dict := PySem.W.mg_none_of X G z_dict
  have Z_isinstance := PySem.W.mg_none_of X G z_isinstance
  have Z_range := PySem.W.mg_none_of X G z_range
  have Z_set := PySem.W.mg_none_of X G z_set
  have Z_zip := PySem.W.mg_none_of X G z_zip
  have Z_all := PySem.W.mg_none_of X G z_all
  have Z_max := PySem.W.mg_none_of X G z_max
  have Z_sorted := PySem.W.mg_none_of X G z_sorted
  have Z_reversed := PySem.W.mg_none_of X G z_reversed
  have Z_enumerate := PySem.W.mg_none_of X G z_enumerate
  have Z_super := PySem.W.mg_none_of X G z_super
  have X_InvalidScore := PySem.W.mg_of X G aC_InvalidScore
  have X_Score := PySem.W.mg_of X G aC_Score
  have T : Txt K mg := ⟨Z_len, Z_abs, Z_int, Z_bool, Z_str, Z_list, Z_tuple, Z_dict, Z_isinstance, Z_range, Z_set, Z_zip, Z_all, Z_max, Z_sorted, Z_reversed, Z_enumerate⟩
  have TG : ChkTxt mg := ⟨⟨_, X_MOST_ENDS⟩, ⟨_, X_MOST_LOOPS⟩, ⟨_, X_MOST_STATEMENTS⟩⟩
  have TFl : FlatTxt mg := ⟨⟨_, X_WHOLE⟩⟩
  have TP : PlaceTxt K w mg := ⟨_, _, _, X_VALUE_PLACES, ⟨y_VALUE_PLACES, g_DVALUE_PLACES, s_DVALUE_PLACES⟩, (places_ns y_VALUE_PLACES f_DVALUE_PLACES).1, (places_ns y_VALUE_PLACES f_DVALUE_PLACES).2⟩
  have TS : ScTxt K C_Score := ⟨⟨pg_Score, hd_Score, po_Score, sa_Score⟩, nends_Score, nstatements_Score, nnext_Score, nvalue_numbers_Score⟩
  have IE : ExcC K C_InvalidScore := ⟨ega_InvalidScore, egg_InvalidScore, ee_InvalidScore, eh_InvalidScore, caS, spS, tkS, obS⟩
  have each : ∀ {Q : Addr × Addr → Prop}, Q (cc_Score___init__, PP_Score___init__) → ∀ p ∈ [(cc_Score___init__, PP_Score___init__)], Q p := fun {Q} hq p hp => by
    simp only [List.mem_cons, List.not_mem_nil, or_false] at hp
    exact hp ▸ hq
  refine ⟨PySem.W.fnOf "law" "law" (defArgs s_law) (defBody s_law) (defScope s_law) .none kV_law dc_law pm_law an_law cd_law ct_law, [(cc_Score___init__, PP_Score___init__)], spLaw K PP_Score___init__, each (TA _ mP_Score___init__), each nP_Score___init__, each (PySem.W.codeHd_of_K X hG_Score___init__), fun s v => .of_eq rfl, fun H a ns hl _ hH hS => ⟨a, ns, rfl, hS, hl, ⟨#[], hH (cc_Score___init__, PP_Score___init__) (by simp), trivial⟩, fun _ => rfl⟩, fun base _ _ hTT => ?_⟩
  have TB0_Score___init__ := hTT (cc_Score___init__, PP_Score___init__) (by simp)
  have TB_Score___init__ : GxR.TabB base mg cc_Score___init__ PP_Score___init__ := ⟨TB0_Score___init__.code, TB0_Score___init__.bm, TB0_Score___init__.gP⟩
  have OE_InvalidScore : OexC K C_InvalidScore := ⟨⟨_, _, _, _, _, _, _, _, _, _, _, _, _, _, _, ex_InvalidScore, rfl⟩, esa_InvalidScore, ee_InvalidScore, et_InvalidScore, ek_InvalidScore⟩
  have GE_InvalidScore := fn_super (P := l.prog) (w := w) (mg := mg) (base := base) (msg := "the score breaks a rule") (fld := "rule") (arg := "rule") el_InvalidScore ec_InvalidScore OE_InvalidScore (by rfl) (by rfl) (by rfl) (by rfl) (by decide +kernel) rfl rfl rfl (by rfl) (by rfl) (by decide +kernel) (by decide +kernel) eco_InvalidScore ev_InvalidScore efi_InvalidScore etop_InvalidScore ece_InvalidScore ed_InvalidScore emo_InvalidScore Z_super eany_InvalidScore esu_InvalidScore eve_InvalidScore eno_InvalidScore (fun env => ⟨_, rfl⟩)
  have O_InvalidScore : OCal l.prog w K mg base C_InvalidScore "InvalidScore" "rule" fS_InvalidScore _ := ⟨OE_InvalidScore, ein_InvalidScore, eti_InvalidScore, GE_InvalidScore, Binds.all fun us hl => (match us, hl with | [_, _], _ => rfl), X_InvalidScore⟩
  have C_inner_blocks : Cal l.prog w K mg base 1 _ _ (spInn K) _ _ := ⟨ok_inner_blocks F_inner_blocks T, b_inner_blocks, k_inner_blocks, m_inner_blocks⟩
  have C_listed : Cal l.prog w K mg base 2 _ _ (spLis K) _ _ := ⟨ok_listed F_listed T C_inner_blocks, b_listed, k_listed, m_listed⟩
  have C_are_different : Cal l.prog w K mg base 1 _ _ (spDif K) _ _ := ⟨ok_are_different F_are_different T, b_are_different, k_are_different, m_are_different⟩
  have C_ends_of : Cal l.prog w K mg base 1 _ _ (spEnds K) _ _ := ⟨ok_ends_of F_ends_of T, b_ends_of, k_ends_of, m_ends_of⟩
  have C_is_right_call : Cal l.prog w K mg base 2 _ _ (spRight K) _ _ := ⟨ok_is_right_call F_is_right_call T C_are_different, b_is_right_call, k_is_right_call, m_is_right_call⟩
  have C_check_names : CalX l.prog w K mg base 3 _ _ (spChkN K C_InvalidScore) _ _ := ⟨ok_check_names F_check_names T TG O_InvalidScore C_are_different, b_check_names, k_check_names, m_check_names⟩
  have C_check_statement : CalX l.prog w K mg base 3 _ _ (spChkS K C_InvalidScore) _ _ := ⟨ok_check_statement F_check_statement T O_InvalidScore C_is_right_call C_ends_of, b_check_statement, k_check_statement, m_check_statement⟩
  have C_check_block : CalX l.prog w K mg base 4 _ _ (spChkB K C_InvalidScore) _ _ := ⟨ok_check_block F_check_block T C_check_statement C_listed, b_check_block, k_check_block, m_check_block⟩
  have C_played_size : Cal l.prog w K mg base 3 _ _ (spPlay K) _ _ := ⟨ok_played_size F_played_size T C_listed, b_played_size, k_played_size, m_played_size⟩
  have C_part_sizes : Cal l.prog w K mg base 4 _ _ (spSizes K) _ _ := ⟨ok_part_sizes F_part_sizes T C_listed C_played_size, b_part_sizes, k_part_sizes, m_part_sizes⟩
  have C_check_tree : CalX l.prog w K mg base 5 _ _ (spChkT K C_InvalidScore) _ _ := ⟨ok_check_tree F_check_tree T TG O_InvalidScore C_check_names C_check_block C_part_sizes C_played_size, b_check_tree, k_check_tree, m_check_tree⟩
  have C_tasks : Cal l.prog w K mg base 1 _ _ (spTasks K) _ _ := ⟨ok_tasks F_tasks T, b_tasks, k_tasks, m_tasks⟩
  have C_renamed : Cal l.prog w K mg base 1 _ _ (spRen K) _ _ := ⟨ok_renamed F_renamed T, b_renamed, k_renamed, m_renamed⟩
  have C_call_tasks : Cal l.prog w K mg base 2 _ _ (spCallT K) _ _ := ⟨ok_call_tasks F_call_tasks T C_tasks, b_call_tasks, k_call_tasks, m_call_tasks⟩
  have C_played_rows : Cal l.prog w K mg base 5 _ _ (spRows K) _ _ := ⟨ok_played_rows F_played_rows T TFl C_part_sizes C_tasks C_call_tasks C_renamed C_inner_blocks, b_played_rows, k_played_rows, m_played_rows⟩
  have C_next_position : Cal l.prog w K mg base 1 _ _ (spNxt K) _ _ := ⟨ok_next_position F_next_position T TFl, b_next_position, k_next_position, m_next_position⟩
  have C_next_positions : Cal l.prog w K mg base 2 _ _ (spNexts K) _ _ := ⟨ok_next_positions F_next_positions T C_next_position, b_next_positions, k_next_positions, m_next_positions⟩
  have C_key_of : Cal l.prog w K mg base 1 _ _ (spKey K) _ _ := ⟨ok_key_of F_key_of T, b_key_of, k_key_of, m_key_of⟩
  have C_numbered : Cal l.prog w K mg base 1 _ _ (spNum K) _ _ := ⟨ok_numbered F_numbered T, b_numbered, k_numbered, m_numbered⟩
  have C_value_of : Cal l.prog w K mg base 1 _ _ (spVof K) _ _ := ⟨ok_value_of F_value_of T TP, b_value_of, k_value_of, m_value_of⟩
  have G_Score := ok_score (CS := C_InvalidScore) (PT := PP_Score___init__) F_Score___init__ T TS TB_Score___init__ C_check_tree C_played_rows C_next_positions C_numbered C_key_of C_value_of
  have M_Score : Mk K C_Score f_Score___init__ := ⟨mk_Score, a_Score___init__, i_Score___init__, kc_Score⟩
  have RE : XfC K C_InvalidScore := ⟨ega_InvalidScore, egg_InvalidScore, ee_InvalidScore, eh_InvalidScore⟩
  have C__law_take : Cal l.prog w K mg base 1 _ _ spTake _ _ := ⟨ok_law_take F__law_take T, b__law_take, k__law_take, m__law_take⟩
  have C__law_tape : Cal l.prog w K mg base 1 _ _ (spTape K) _ _ := ⟨ok_law_tape F__law_tape T, b__law_tape, k__law_tape, m__law_tape⟩
  have C__law_number : Cal l.prog w K mg base 2 _ _ spNumber _ _ := ⟨ok_law_number F__law_number T C__law_take, b__law_number, k__law_number, m__law_number⟩
  have C__law_value : Cal l.prog w K mg base 6 _ _ (spVal K 3) _ _ := ⟨dval_all T C__law_take C__law_number F__law_value b__law_value m__law_value 3, b__law_value, k__law_value, m__law_value⟩
  have C__law_two : Cal l.prog w K mg base 2 _ _ spTwo _ _ := ⟨ok_law_two F__law_two T C__law_take, b__law_two, k__law_two, m__law_two⟩
  have G_stm := stm_all T C__law_take C__law_two C__law_value F__law_block b__law_block m__law_block F__law_statement b__law_statement m__law_statement 3 (P := l.prog) (w := w) (base := base)
  have C__law_block : Cal l.prog w K mg base 15 _ _ (spBlk K 3) _ _ := ⟨ok_law_block F__law_block T 3 C__law_take ⟨G_stm, b__law_statement, F__law_statement.kp, m__law_statement⟩, b__law_block, k__law_block, m__law_block⟩
  have C__law_tree : Cal l.prog w K mg base 16 _ _ (spTreeD K 3) _ _ := ⟨ok_law_tree F__law_tree T C__law_take 3 (by decide) C__law_block, b__law_tree, k__law_tree, m__law_tree⟩
  have C__law_all : Cal l.prog w K mg base 21 _ _ (spAll K 20) _ _ := ⟨lall_all T F__law_all b__law_all m__law_all 20, b__law_all, k__law_all, m__law_all⟩
  have C__law_double : Cal l.prog w K mg base 1 _ _ spDbl _ _ := ⟨fnOk_or (ok_dblT F__law_double T) (ok_dblL F__law_double T), b__law_double, k__law_double, m__law_double⟩
  have C__law_statement_rule : Cal l.prog w K mg base 2 _ _ (spLSR K) _ _ := ⟨ok_law_statement_rule F__law_statement_rule T C__law_double, b__law_statement_rule, k__law_statement_rule, m__law_statement_rule⟩
  have C__law_calls : Cal l.prog w K mg base 22 _ _ (spLC K) _ _ := ⟨ok_law_calls F__law_calls T C__law_all, b__law_calls, k__law_calls, m__law_calls⟩
  have C__law_circle : Cal l.prog w K mg base 23 _ _ (spCirc K) _ _ := ⟨ok_law_circle F__law_circle T C__law_calls, b__law_circle, k__law_circle, m__law_circle⟩
  have C__law_measure : Cal l.prog w K mg base 41 _ _ (spMeas K 40) _ _ := ⟨meas_all T F__law_measure b__law_measure m__law_measure 40, b__law_measure, k__law_measure, m__law_measure⟩
  have C__law_rule : Cal l.prog w K mg base 42 _ _ (spRule K) _ _ := ⟨ok_law_rule F__law_rule T C__law_double C__law_all C__law_statement_rule C__law_circle C__law_measure, b__law_rule, k__law_rule, m__law_rule⟩
  have C__law_spoilt : Cal l.prog w K mg base 2 _ _ (spSpoil K) _ _ := ⟨ok_law_spoilt F__law_spoilt T C__law_take, b__law_spoilt, k__law_spoilt, m__law_spoilt⟩
  have C__law_long : Cal l.prog w K mg base 2 _ _ (spLong K) _ _ := ⟨ok_law_long F__law_long T C__law_take, b__law_long, k__law_long, m__law_long⟩
  have C__law_told : Cal l.prog w K mg base 8 _ _ (spTold4 K PP_Score___init__) _ _ := ⟨ok_law_told F__law_told T RE IE eno_InvalidScore (exm_is ee_InvalidScore ei_InvalidScore et_InvalidScore ess_InvalidScore) X_InvalidScore (PySem.W.mg_of X G aC_ScoreError) isS C_check_tree M_Score G_Score b_Score___init__ X_Score, b__law_told, k__law_told, m__law_told⟩
  exact ok_law F_law T C__law_take C__law_tape C__law_tree C__law_spoilt C__law_long C__law_rule C__law_told
open LamX in
theorem walkT {l : PySem.W.OpenLaw} {n k : Nat} {q : Program} {loose : List Str} {XP : (Str → Option Value) → Heap → Prop} {YP : World → Heap → Prop} {d : DefRec} {K : Params → PySem.W.Frag} {x : Str} {ts : List Addr}
    (hn : l.most = some n) (hn2 : n ≤ sizeLine) (hdf : d.params.defaults = []) (hr : Room k callerA) (hY : ∀ (w : World) (h : Heap), YP w h → (K w.params).In h) (hTS : ∀ (w : World) (h : Heap), YP w h → ∀ P ∈ ts, h.get? P = some { cls := .none, data := .fields #[] })
    (F : ∀ (w : World) (mg : Str → Option Value) (fa : Addr) (h : Heap), (K w.params).In h → h.Ns mainGlobals mg → mg d.name = some (.ref fa) → (∀ P ∈ ts, h.get? P = some { cls := .none, data := .fields #[] }) → LawAtS l w (K w.params) CX0 k n x mg fa h) :
    PySem.W.WalkO q loose XP YP l.row.toRowW d [] (fun f vs => PySem.call f vs) := by
  refine Att.attach_callB hn hdf fun w s₀ s₁ mg mb fa o pm cd doc a vs ns G Y ho hd hcd hmg hobj hints hlen hbits hg => ?_
  have KX := hY w _ Y
  obtain ⟨fd, cs, sp, hT, nT, C, hb, hsp, hF⟩ := F w mg fa _ KX G.T.g hmg (hTS w _ Y)
  exact law_callTs KX G.T.g G.T.b G.T.builtins G.T.nolimit hg hT nT C G.T.bmain hobj hints (Nat.le_trans hlen hn2) hr hF hb (fun H hH hS => hsp H a ns hlen hbits hH hS) fun H e s' z => z
end OS

local macro_rules | `(tactic| o_head ($f:ident $k:term $a:term $e:term)) => `(tactic| o_head (PySem.W.kmHook $k $a $e [182]))
open PySem PySem.W PyProof.Rows in
set_option maxRecDepth 100000 in
set_option maxHeartbeats 0 in
theorem PySem.Challenge.cw_onescore_k04_rules_of_scores_holds : PySem.Challenge.rw_onescore_k04_rules_of_scores.Holds := by
  w_on; o_law; k_head; (case hw => w_witness2)
  k_fill
  refine OS.walkT (l := PySem.Challenge.rw_onescore_k04_rules_of_scores) (n := 63) (k := 43) (x := "script") (ts := [182]) rfl (by decide) rfl ⟨rfl, by decide, by decide⟩ (fun w h Y => PySem.W.km_in_of Y) (fun w h Y => PySem.W.km_tabs_of Y) ?F
  case F =>
    intro w mg fa h KX G hmg TA
    refine' OS.all_mk KX G hmg TA ?aC_InvalidScore ?aC_Score ?pg_Score ?hd_Score ?po_Score ?sa_Score ?mk_Score ?kc_Score ?nends_Score ?nstatements_Score ?nnext_Score ?nvalue_numbers_Score ?a_key_of ?l_key_of ?c_key_of ?k_key_of ?a_numbered ?l_numbered ?c_numbered ?k_numbered ?a_inner_blocks ?l_inner_blocks ?c_inner_blocks ?k_inner_blocks ?a_listed ?l_listed ?c_listed ?k_listed ?a_are_different ?l_are_different ?c_are_different ?k_are_different ?a_ends_of ?l_ends_of ?c_ends_of ?k_ends_of ?a_is_right_call ?l_is_right_call ?c_is_right_call ?k_is_right_call ?a_check_names ?l_check_names ?c_check_names ?k_check_names ?a_check_statement ?l_check_statement ?c_check_statement ?k_check_statement ?a_check_block ?l_check_block ?c_check_block ?k_check_block ?a_played_size ?l_played_size ?c_played_size ?k_played_size ?a_part_sizes ?l_part_sizes ?c_part_sizes ?k_part_sizes ?a_check_tree ?l_check_tree ?c_check_tree ?k_check_tree ?a_renamed ?l_renamed ?c_renamed ?k_renamed ?a_tasks ?l_tasks ?c_tasks ?k_tasks ?a_call_tasks ?l_call_tasks ?c_call_tasks ?k_call_tasks ?a_played_rows ?l_played_rows ?c_played_rows ?k_played_rows ?a_next_position ?l_next_position ?c_next_position ?k_next_position ?a_next_positions ?l_next_positions ?c_next_positions ?k_next_positions ?a_value_of ?l_value_of ?c_value_of ?k_value_of ?a_Score___init__ ?i_Score___init__ ?l_Score___init__ ?c_Score___init__ ?k_Score___init__ ?co_Score___init__ ?vG_Score___init__ ?nP_Score___init__ ?hG_Score___init__ ?mP_Score___init__ ?a__law_tape ?l__law_tape ?c__law_tape ?k__law_tape ?a__law_take ?l__law_take ?c__law_take ?k__law_take ?a__law_number ?l__law_number ?c__law_number ?k__law_number ?a__law_value ?l__law_value ?c__law_value ?k__law_value ?a__law_two ?l__law_two ?c__law_two ?k__law_two ?a__law_statement ?l__law_statement ?c__law_statement ?k__law_statement ?a__law_block ?l__law_block ?c__law_block ?k__law_block ?a__law_tree ?l__law_tree ?c__law_tree ?k__law_tree ?a__law_all ?l__law_all ?c__law_all ?k__law_all ?a__law_double ?l__law_double ?c__law_double ?k__law_double ?a__law_spoilt ?l__law_spoilt ?c__law_spoilt ?k__law_spoilt ?a__law_long ?l__law_long ?c__law_long ?k__law_long ?a__law_statement_rule ?l__law_statement_rule ?c__law_statement_rule ?k__law_statement_rule ?a__law_calls ?l__law_calls ?c__law_calls ?k__law_calls ?a__law_circle ?l__law_circle ?c__law_circle ?k__law_circle ?a__law_measure ?l__law_measure ?c__law_measure ?k__law_measure ?a__law_rule ?l__law_rule ?c__law_rule ?k__law_rule ?a__law_told ?l__law_told ?c__law_told ?k__law_told ?a_law ?l_law ?c_law ?k_law ?x_MOST_ENDS ?x_MOST_LOOPS ?x_MOST_STATEMENTS ?x_WHOLE ?z_len ?z_abs ?z_int ?z_bool ?z_str ?z_list ?z_tuple ?z_dict ?z_isinstance ?z_range ?z_set ?z_zip ?z_all ?z_max ?z_sorted ?z_reversed ?z_enumerate ?z_super ?x_VALUE_PLACES ?y_VALUE_PLACES ?g_DVALUE_PLACES ?f_DVALUE_PLACES ?s_DVALUE_PLACES ?ex_InvalidScore ?esa_InvalidScore ?ega_InvalidScore ?egg_InvalidScore ?eno_InvalidScore ?ee_InvalidScore ?et_InvalidScore ?ek_InvalidScore ?eh_InvalidScore ?ei_InvalidScore ?ess_InvalidScore ?ein_InvalidScore ?eti_InvalidScore ?el_InvalidScore ?ec_InvalidScore ?eco_InvalidScore ?ev_InvalidScore ?efi_InvalidScore ?etop_InvalidScore ?ece_InvalidScore ?ed_InvalidScore ?emo_InvalidScore ?eany_InvalidScore ?esu_InvalidScore ?eve_InvalidScore ?aC_ScoreError ?caS ?spS ?tkS ?obS ?isS
    (case aC_InvalidScore => k_is)
    (case aC_Score => k_is)
    (case pg_Score => k_is)
    (case hd_Score => k_is)
    (case po_Score => k_is)
    (case sa_Score => k_is)
    (case mk_Score => k_is)
    (case kc_Score => k_is)
    (case nends_Score => k_is)
    (case nstatements_Score => k_is)
    (case nnext_Score => k_is)
    (case nvalue_numbers_Score => k_is)
    (case a_key_of => k_is)
    (case l_key_of => k_is)
    (case c_key_of => k_is)
    (case k_key_of => k_is)
    (case a_numbered => k_is)
    (case l_numbered => k_is)
    (case c_numbered => k_is)
    (case k_numbered => k_is)
    (case a_inner_blocks => k_is)
    (case l_inner_blocks => k_is)
    (case c_inner_blocks => k_is)
    (case k_inner_blocks => k_is)
    (case a_listed => k_is)
    (case l_listed => k_is)
    (case c_listed => k_is)
    (case k_listed => k_is)
    (case a_are_different => k_is)
    (case l_are_different => k_is)
    (case c_are_different => k_is)
    (case k_are_different => k_is)
    (case a_ends_of => k_is)
    (case l_ends_of => k_is)
    (case c_ends_of => k_is)
    (case k_ends_of => k_is)
    (case a_is_right_call => k_is)
    (case l_is_right_call => k_is)
    (case c_is_right_call => k_is)
    (case k_is_right_call => k_is)
    (case a_check_names => k_is)
    (case l_check_names => k_is)
    (case c_check_names => k_is)
    (case k_check_names => k_is)
    (case a_check_statement => k_is)
    (case l_check_statement => k_is)
    (case c_check_statement => k_is)
    (case k_check_statement => k_is)
    (case a_check_block => k_is)
    (case l_check_block => k_is)
    (case c_check_block => k_is)
    (case k_check_block => k_is)
    (case a_played_size => k_is)
    (case l_played_size => k_is)
    (case c_played_size => k_is)
    (case k_played_size => k_is)
    (case a_part_sizes => k_is)
    (case l_part_sizes => k_is)
    (case c_part_sizes => k_is)
    (case k_part_sizes => k_is)
    (case a_check_tree => k_is)
    (case l_check_tree => k_is)
    (case c_check_tree => k_is)
    (case k_check_tree => k_is)
    (case a_renamed => k_is)
    (case l_renamed => k_is)
    (case c_renamed => k_is)
    (case k_renamed => k_is)
    (case a_tasks => k_is)
    (case l_tasks => k_is)
    (case c_tasks => k_is)
    (case k_tasks => k_is)
    (case a_call_tasks => k_is)
    (case l_call_tasks => k_is)
    (case c_call_tasks => k_is)
    (case k_call_tasks => k_is)
    (case a_played_rows => k_is)
    (case l_played_rows => k_is)
    (case c_played_rows => k_is)
    (case k_played_rows => k_is)
    (case a_next_position => k_is)
    (case l_next_position => k_is)
    (case c_next_position => k_is)
    (case k_next_position => k_is)
    (case a_next_positions => k_is)
    (case l_next_positions => k_is)
    (case c_next_positions => k_is)
    (case k_next_positions => k_is)
    (case a_value_of => k_is)
    (case l_value_of => k_is)
    (case c_value_of => k_is)
    (case k_value_of => k_is)
    (case a_Score___init__ => k_is)
    (case i_Score___init__ => k_is)
    (case l_Score___init__ => k_is)
    (case c_Score___init__ => k_is)
    (case k_Score___init__ => k_is)
    (case co_Score___init__ => k_is)
    (case vG_Score___init__ => first | rfl | decide +kernel)
    (case nP_Score___init__ => first | k_is | rfl | decide +kernel)
    (case hG_Score___init__ => first | rfl | kernel_rfl | k_is | decide +kernel)
    (case mP_Score___init__ => first | exact List.mem_cons_self | decide +kernel | simp)
    (case a__law_tape => k_is)
    (case l__law_tape => k_is)
    (case c__law_tape => k_is)
    (case k__law_tape => k_is)
    (case a__law_take => k_is)
    (case l__law_take => k_is)
    (case c__law_take => k_is)
    (case k__law_take => k_is)
    (case a__law_number => k_is)
    (case l__law_number => k_is)
    (case c__law_number => k_is)
    (case k__law_number => k_is)
    (case a__law_value => k_is)
    (case l__law_value => k_is)
    (case c__law_value => k_is)
    (case k__law_value => k_is)
    (case a__law_two => k_is)
    (case l__law_two => k_is)
    (case c__law_two => k_is)
    (case k__law_two => k_is)
    (case a__law_statement => k_is)
    (case l__law_statement => k_is)
    (case c__law_statement => k_is)
    (case k__law_statement => k_is)
    (case a__law_block => k_is)
    (case l__law_block => k_is)
    (case c__law_block => k_is)
    (case k__law_block => k_is)
    (case a__law_tree => k_is)
    (case l__law_tree => k_is)
    (case c__law_tree => k_is)
    (case k__law_tree => k_is)
    (case a__law_all => k_is)
    (case l__law_all => k_is)
    (case c__law_all => k_is)
    (case k__law_all => k_is)
    (case a__law_double => k_is)
    (case l__law_double => k_is)
    (case c__law_double => k_is)
    (case k__law_double => k_is)
    (case a__law_spoilt => k_is)
    (case l__law_spoilt => k_is)
    (case c__law_spoilt => k_is)
    (case k__law_spoilt => k_is)
    (case a__law_long => k_is)
    (case l__law_long => k_is)
    (case c__law_long => k_is)
    (case k__law_long => k_is)
    (case a__law_statement_rule => k_is)
    (case l__law_statement_rule => k_is)
    (case c__law_statement_rule => k_is)
    (case k__law_statement_rule => k_is)
    (case a__law_calls => k_is)
    (case l__law_calls => k_is)
    (case c__law_calls => k_is)
    (case k__law_calls => k_is)
    (case a__law_circle => k_is)
    (case l__law_circle => k_is)
    (case c__law_circle => k_is)
    (case k__law_circle => k_is)
    (case a__law_measure => k_is)
    (case l__law_measure => k_is)
    (case c__law_measure => k_is)
    (case k__law_measure => k_is)
    (case a__law_rule => k_is)
    (case l__law_rule => k_is)
    (case c__law_rule => k_is)
    (case k__law_rule => k_is)
    (case a__law_told => k_is)
    (case l__law_told => k_is)
    (case c__law_told => k_is)
    (case k__law_told => k_is)
    (case a_law => k_is)
    (case l_law => k_is)
    (case c_law => k_is)
    (case k_law => k_is)
    (case x_MOST_ENDS => k_is)
    (case x_MOST_LOOPS => k_is)
    (case x_MOST_STATEMENTS => k_is)
    (case x_WHOLE => k_is)
    (case z_len => k_is)
    (case z_abs => k_is)
    (case z_int => k_is)
    (case z_bool => k_is)
    (case z_str => k_is)
    (case z_list => k_is)
    (case z_tuple => k_is)
    (case z_dict => k_is)
    (case z_isinstance => k_is)
    (case z_range => k_is)
    (case z_set => k_is)
    (case z_zip => k_is)
    (case z_all => k_is)
    (case z_max => k_is)
    (case z_sorted => k_is)
    (case z_reversed => k_is)
    (case z_enumerate => k_is)
    (case z_super => k_is)
    (case x_VALUE_PLACES => k_is)
    (case y_VALUE_PLACES => k_is)
    (case g_DVALUE_PLACES => repeat (first | exact trivial | refine ⟨⟨_, _, rfl, rfl⟩, ?_⟩))
    (case f_DVALUE_PLACES => repeat (first | exact OS.ve_nil | apply OS.ve_cons | exact OS.ie_nil | apply OS.ie_cons | rfl | k_is))
    (case s_DVALUE_PLACES => decide +kernel)
    (case ex_InvalidScore => k_is)
    (case esa_InvalidScore => k_is)
    (case ega_InvalidScore => k_is)
    (case egg_InvalidScore => k_is)
    (case eno_InvalidScore => k_is)
    (case ee_InvalidScore => k_is)
    (case et_InvalidScore => k_is)
    (case ek_InvalidScore => k_is)
    (case eh_InvalidScore => k_is)
    (case ei_InvalidScore => k_is)
    (case ess_InvalidScore => first | rfl | k_is)
    (case ein_InvalidScore => k_is)
    (case eti_InvalidScore => k_is)
    (case el_InvalidScore => k_is)
    (case ec_InvalidScore => k_is)
    (case eco_InvalidScore => k_is)
    (case ev_InvalidScore => first | rfl | decide +kernel)
    (case efi_InvalidScore => first | rfl | decide +kernel)
    (case etop_InvalidScore => first | rfl | decide +kernel)
    (case ece_InvalidScore => k_is)
    (case ed_InvalidScore => first | k_is | rfl)
    (case emo_InvalidScore => k_is)
    (case eany_InvalidScore => k_is)
    (case esu_InvalidScore => ks_is)
    (case eve_InvalidScore => k_is)
    (case aC_ScoreError => k_is)
    (case caS => k_is)
    (case spS => k_is)
    (case tkS => first | k_is | rfl)
    (case obS => k_is)
    (case isS => first | k_is | kit_is | rfl)
