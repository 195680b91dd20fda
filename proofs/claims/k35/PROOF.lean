import PyProof.Rows.All
import Wide.All
import OpenK.AllK
import Wide.FinOn
import HandS.Codes
import HandS.Deep
import HandS.Dict
import HandS.Evl
import HandS.ExcField
import HandS.ExcInit
import HandS.ForExc
import HandS.ForMost
import HandS.IsInst
import HandS.More
import HandS.RaiseMore
import HandS.StrMore
import HandS.Style
import HandS.TupAny
import HandS.Walk
import HandS.Zip
import KE.GoesZip
import KE.KDictKeyed
import KE.KExcSuper
import KE.KTurns
import KE.RegKSuper
import PySem.Challenge.RW_onescore_k35_texts_of_code
set_option Elab.async false
set_option linter.all false
set_option maxRecDepth 100000
/-! Plain mathematics of tokens: texts as lists of code points. -/
namespace OS
/-- where the run of signs with p stops that begins at i -/
def run (p : Nat → Bool) (cs : List Nat) (i : Nat) : Nat := i + ((cs.drop i).takeWhile p).length
theorem run_le (p : Nat → Bool) (cs : List Nat) {i : Nat} (h : i ≤ cs.length) : run p cs i ≤ cs.length := by
  have h1 : ((cs.drop i).takeWhile p).length ≤ (cs.drop i).length := (List.takeWhile_sublist p).length_le
  rw [List.length_drop] at h1
  unfold run
  omega
theorem le_run (p : Nat → Bool) (cs : List Nat) (i : Nat) : i ≤ run p cs i := Nat.le_add_right _ _
theorem drop_at {cs : List Nat} {i c : Nat} (h : cs[i]? = some c) : cs.drop i = c :: cs.drop (i + 1) := by
  obtain ⟨hi, e⟩ := List.getElem?_eq_some_iff.mp h
  rw [List.drop_eq_getElem_cons hi, e]
theorem run_go {p : Nat → Bool} {cs : List Nat} {i c : Nat} (h : cs[i]? = some c) (hp : p c = true) : run p cs i = run p cs (i + 1) := by
  unfold run
  rw [drop_at h, List.takeWhile_cons, if_pos hp, List.length_cons]
  omega
theorem run_stop {p : Nat → Bool} {cs : List Nat} {i c : Nat} (h : cs[i]? = some c) (hp : p c = false) : run p cs i = i := by
  unfold run
  rw [drop_at h, List.takeWhile_cons, hp]
  simp
theorem run_end {p : Nat → Bool} {cs : List Nat} {i : Nat} (h : cs.length ≤ i) : run p cs i = i := by
  unfold run
  rw [List.drop_eq_nil_of_le h]
  simp
theorem run_congr {p q : Nat → Bool} (h : ∀ c, p c = q c) (cs : List Nat) (i : Nat) : run p cs i = run q cs i := by
  have e : p = q := funext h
  rw [e]
theorem run_gt {p : Nat → Bool} {cs : List Nat} {i c : Nat} (h : cs[i]? = some c) (hp : p c = true) : i < run p cs i := by
  rw [run_go h hp]
  exact Nat.lt_of_lt_of_le (Nat.lt_succ_self i) (le_run p cs (i + 1))

def isLetter (c : Nat) : Bool := (decide (97 ≤ c) && decide (c ≤ 122)) || (decide (65 ≤ c) && decide (c ≤ 90))
def isDigit (c : Nat) : Bool := decide (48 ≤ c) && decide (c ≤ 57)
def isName (c : Nat) : Bool := isLetter c || (isDigit c || c == 95)
def notNl (c : Nat) : Bool := c != 10
/-- the sort and the end of the token at i; words tells which stretches are words, longs which two signs stand together, signs the rest -/
structure Tab where
  word : List Nat → Bool
  long : List Nat → Bool
  sign : Nat → Bool
inductive Srt where
  | word | name | number | sign | wrong
  deriving DecidableEq
def tokAt (T : Tab) (cs : List Nat) (i : Nat) : Srt × Nat :=
  match cs[i]? with
  | none => (.wrong, i + 1)
  | some c =>
    if isLetter c = true then
      (if T.word ((cs.drop i).take (run isName cs i - i)) = true then .word else .name, run isName cs i)
    else if isDigit c = true then (.number, run isDigit cs i)
    else if T.long ((cs.drop i).take 2) = true then (.sign, i + 2)
    else (if T.sign c = true then .sign else .wrong, i + 1)
theorem letter_name {c : Nat} (h : isLetter c = true) : isName c = true := by
  unfold isName; rw [h]; rfl
theorem tokAt_gt (T : Tab) (cs : List Nat) (i : Nat) : i < (tokAt T cs i).2 := by
  unfold tokAt
  cases e : cs[i]? with
  | none => exact Nat.lt_succ_self i
  | some c =>
    dsimp only
    by_cases h1 : isLetter c = true
    · rw [if_pos h1]; exact run_gt e (letter_name h1)
    · rw [if_neg h1]
      by_cases h2 : isDigit c = true
      · rw [if_pos h2]; exact run_gt e h2
      · rw [if_neg h2]
        by_cases h3 : T.long ((cs.drop i).take 2) = true
        · rw [if_pos h3]; show i < i + 2; omega
        · rw [if_neg h3]; show i < i + 1; omega

theorem tokAt_le (T : Tab) (cs : List Nat) {i : Nat} (h : i < cs.length) : (tokAt T cs i).2 ≤ cs.length + 1 := by
  unfold tokAt
  cases e : cs[i]? with
  | none => show i + 1 ≤ _; omega
  | some c =>
    dsimp only
    by_cases h1 : isLetter c = true
    · rw [if_pos h1]; exact Nat.le_succ_of_le (run_le _ cs (by omega))
    · rw [if_neg h1]
      by_cases h2 : isDigit c = true
      · rw [if_pos h2]; exact Nat.le_succ_of_le (run_le _ cs (by omega))
      · rw [if_neg h2]
        by_cases h3 : T.long ((cs.drop i).take 2) = true
        · rw [if_pos h3]; show i + 2 ≤ _; omega
        · rw [if_neg h3]; show i + 1 ≤ _; omega

structure Tk where
  s : Srt
  a : Nat
  b : Nat
/-- the tokens from i on -/
inductive Toks (T : Tab) (cs : List Nat) : Nat → List Tk → Prop
  | done {i : Nat} : cs.length ≤ i → Toks T cs i []
  | skip {i c : Nat} {L : List Tk} : cs[i]? = some c → (c = 32 ∨ c = 10) → Toks T cs (i + 1) L → Toks T cs i L
  | note {i : Nat} {L : List Tk} : cs[i]? = some 35 → Toks T cs (run notNl cs i) L → Toks T cs i L
  | tok {i c : Nat} {L : List Tk} : cs[i]? = some c → ¬ (c = 32 ∨ c = 10) → c ≠ 35 → Toks T cs (tokAt T cs i).2 L → Toks T cs i (⟨(tokAt T cs i).1, i, (tokAt T cs i).2⟩ :: L)
theorem Toks.det {T : Tab} {cs : List Nat} {i : Nat} {L M : List Tk} (h : Toks T cs i L) : Toks T cs i M → L = M := by
  induction h generalizing M with
  | done h =>
    intro g
    cases g with
    | done _ => rfl
    | skip e _ _ => rw [List.getElem?_eq_none h] at e; cases e
    | note e _ => rw [List.getElem?_eq_none h] at e; cases e
    | tok e _ _ _ => rw [List.getElem?_eq_none h] at e; cases e
  | skip e hc _ ih =>
    intro g
    cases g with
    | done h => rw [List.getElem?_eq_none h] at e; cases e
    | skip e' _ g => exact ih g
    | note e' _ => rw [e] at e'; injection e' with e'; omega
    | tok e' n _ _ => rw [e] at e'; injection e' with e'; rw [e'] at hc; exact absurd hc n
  | note e _ ih =>
    intro g
    cases g with
    | done h => rw [List.getElem?_eq_none h] at e; cases e
    | skip e' hc _ => rw [e] at e'; injection e' with e'; omega
    | note _ g => exact ih g
    | tok e' _ n _ => rw [e] at e'; injection e' with e'; exact absurd e'.symm n
  | tok e n1 n2 _ ih =>
    intro g
    cases g with
    | done h => rw [List.getElem?_eq_none h] at e; cases e
    | skip e' hc _ => rw [e] at e'; injection e' with e'; rw [e'] at n1; exact absurd hc n1
    | note e' _ => rw [e] at e'; injection e' with e'; exact absurd e' n2
    | tok _ _ _ g => rw [ih g]
end OS

/-! What all laws share: callees, data, heaps. -/
namespace OS
open PySem PySem.Spec PyProof.Rows L2
/-- a def that may be called: it keeps its promise, binds its parameters, stands at its name -/
structure Cal (P : Program) (w : World) (K : PySem.W.Frag) (mg : Str → Option Value) (base : Heap) (k : Nat) (x : Str) (ps : List Str) (sp : Sp) (f : Addr) (fd : FuncData) : Prop where
  G : FnOk P w K mg base CX0 k f fd ps sp
  b : Binds K fd ps []
  k : PySem.W.keepIn K (.ref f) = true
  m : mg x = some (.ref f)
theorem relS {z : Str} {t : Tok} : RelV (.str z) (.str z t) := ⟨t, rfl⟩
theorem relI {z : Int} {t : Tok} : RelV (.int z) (.int z t) := ⟨t, rfl⟩
theorem relR {a : Addr} : RelV (.ref a) (.ref a) := rfl
theorem same_upd {H : Hp} {p : Addr} {o : HO} (h : H p = none) : Same H (upd H p o) := fun b x e => by
  rw [upd_ne (ne_of_none e h)]
  exact e
theorem Same.tup {K : PySem.W.Frag} {H H' : Hp} {a : Addr} {xs : List V} (e : Same H H') (h : SqT K H a xs) : SqT K H' a xs := by
  rcases h with (h | ⟨o, h⟩) | h
  · exact .inl (.inl (e _ _ h))
  · exact .inl (.inr ⟨o, e _ _ h⟩)
  · exact .inr h
theorem sz6 {n : Nat} (h : n ≤ 100000) : n ≤ sizeLine := Nat.le_trans h (by decide)
theorem sz6' {n : Nat} (h : n < 100000) : n < sizeLine := Nat.lt_of_lt_of_le h (by decide)
/-- the sign at i of a text -/
theorem atI_cps {z : Str} {i c : Nat} (h : z.cps.toList[i]? = some c) : atI z.cps.toList (i : Int) = some c := atI_nat h
theorem len_cps (z : Str) : z.length = z.cps.toList.length := by
  unfold Str.length
  exact (Array.length_toList).symm
/-- a slice of a text by two places within it -/
theorem cut_mid {z : Str} {i j : Nat} (h1 : i ≤ j) (h2 : j ≤ z.length) : cutS z (some (i : Int)) (some (j : Int)) = ⟨((z.cps.toList.drop i).take (j - i)).toArray⟩ := by
  unfold cutS
  rw [HT.sIx_nat, HT.sIx_nat, Nat.min_eq_left (show i ≤ z.length by omega), Nat.min_eq_left h2]
theorem cut_mid' {z : Str} {i j : Nat} (h1 : i ≤ z.length) (h2 : i ≤ j) : cutS z (some (i : Int)) (some (j : Int)) = ⟨((z.cps.toList.drop i).take (j - i)).toArray⟩ := by
  unfold cutS
  rw [HT.sIx_nat, HT.sIx_nat, Nat.min_eq_left h1]
  by_cases h : j ≤ z.length
  · rw [Nat.min_eq_left h]
  · rw [Nat.min_eq_right (show z.length ≤ j by omega)]
    have e1 : ∀ n, z.length - i ≤ n → (z.cps.toList.drop i).take n = z.cps.toList.drop i := fun n hn => List.take_of_length_le (by rw [List.length_drop, ← len_cps]; exact hn)
    rw [e1 _ (Nat.le_refl _), e1 _ (by omega)]
theorem cut_from {z : Str} {i : Nat} (h1 : i ≤ z.length) : cutS z (some (i : Int)) none = ⟨(z.cps.toList.drop i).toArray⟩ := by
  unfold cutS
  rw [HT.sIx_nat, HT.sIx_none, Nat.min_eq_left h1]
  rw [List.take_of_length_le]
  rw [List.length_drop, ← len_cps]
  exact Nat.le_refl _
/-- one sign in a text: the pure test -/
def inS (z : Str) (c : Nat) : Bool := decide (c ∈ z.cps.toList)
/-- «for c in text» by an invariant over the turns -/
theorem for_str {x : Str} {g : TG} {tb : TS} {D : Ends} {σ : L2.St} {H : Hp} (Pv : Nat → L2.St → Hp → Prop) (h0 : Pv 0 σ H)
    (hs : ∀ i c σ H, x.cps.toList[i]? = some c → Pv i σ H → g (.str ⟨#[c]⟩) σ H fun σ2 H2 => tb { D with nx := Pv (i + 1), ct := Pv (i + 1), bk := D.nx } σ2 H2) (hd : ∀ σ H, Pv x.cps.toList.length σ H → D.nx σ H) :
    ∃ W : Nat → Nat → L2.St → Hp → Prop, (∃ m, W 0 m σ H) ∧ ∀ i m σ H, W i m σ H →
      ((Its x).stop i H ∧ D.nx σ H) ∨ ((Its x).go i H ∧ ∃ N : L2.St → Hp → Prop, (∀ σ' H', N σ' H' → ∃ m', m' < m ∧ W (i + 1) m' σ' H') ∧ ∀ v H', (Its x).yld i H v H' → g v σ H' fun σ2 H2 => tb { D with nx := N, ct := N, bk := D.nx } σ2 H2) := by
  refine ⟨fun i m σ H => m = x.cps.size - i ∧ i ≤ x.cps.size ∧ Pv i σ H, ⟨x.cps.size, by simp, Nat.zero_le _, h0⟩, ?_⟩
  rintro i m σ H ⟨rfl, hi, p⟩
  by_cases hlt : i < x.cps.size
  · refine .inr ⟨hlt, Pv (i + 1), fun σ' H' p' => ⟨x.cps.size - (i + 1), by omega, rfl, hlt, p'⟩, fun v H' y => ?_⟩
    obtain ⟨e, c, ec, rfl⟩ := y
    subst e
    exact hs i c σ _ (by rw [Array.getElem?_toList]; exact ec) p
  · have e : i = x.cps.size := by omega
    subst e
    exact .inl ⟨Nat.le_refl _, hd σ H (by rw [Array.length_toList]; exact p)⟩
/-! ### data: trees of None, bools, ints, texts, tuples, lists -/
inductive Dt where
  | non | bl (b : Bool) | int (i : Int) | str (x : Str) | tup (xs : List Dt) | lst (xs : List Dt)
mutual
/-- v holds the datum -/
def At (K : PySem.W.Frag) (H : Hp) : Dt → V → Prop
  | .non, v => v = .non
  | .bl b, v => v = .bl b
  | .int i, v => v = .int i
  | .str x, v => v = .str x
  | .tup xs, v => ∃ p vs, v = .ref p ∧ H p = some (.tup vs) ∧ AtL K H xs vs
  | .lst xs, v => ∃ p vs, v = .ref p ∧ H p = some (.lst vs) ∧ AtL K H xs vs
def AtL (K : PySem.W.Frag) (H : Hp) : List Dt → List V → Prop
  | [], vs => vs = []
  | d :: ds, vs => ∃ v r, vs = v :: r ∧ At K H d v ∧ AtL K H ds r
end
theorem AtL.length {K : PySem.W.Frag} {H : Hp} : ∀ {ds : List Dt} {vs : List V}, AtL K H ds vs → vs.length = ds.length
  | [], vs, h => by
    unfold AtL at h
    subst h
    rfl
  | d :: ds, vs, h => by
    unfold AtL at h
    obtain ⟨v, r, rfl, _, h⟩ := h
    rw [List.length_cons, List.length_cons, AtL.length h]
theorem AtL.get {K : PySem.W.Frag} {H : Hp} : ∀ {ds : List Dt} {vs : List V} {i : Nat} {d : Dt}, AtL K H ds vs → ds[i]? = some d → ∃ v, vs[i]? = some v ∧ At K H d v
  | [], _, _, _, _, e => by simp at e
  | d :: ds, vs, 0, d', h, e => by
    unfold AtL at h
    obtain ⟨v, r, rfl, hd, _⟩ := h
    have e : d = d' := Option.some.inj e
    subst e
    exact ⟨v, rfl, hd⟩
  | d :: ds, vs, i + 1, d', h, e => by
    unfold AtL at h
    obtain ⟨v, r, rfl, _, h⟩ := h
    exact AtL.get (ds := ds) (vs := r) (i := i) h e
mutual
theorem At.keep {K : PySem.W.Frag} {H H' : Hp} (s : Same H H') : ∀ {d : Dt} {v : V}, At K H d v → At K H' d v
  | .non, v, h => by unfold At at h ⊢; exact h
  | .bl b, v, h => by unfold At at h ⊢; exact h
  | .int i, v, h => by unfold At at h ⊢; exact h
  | .str x, v, h => by unfold At at h ⊢; exact h
  | .tup xs, v, h => by
    unfold At at h ⊢
    obtain ⟨p, vs, e, hp, hl⟩ := h
    exact ⟨p, vs, e, s _ _ hp, AtL.keep s hl⟩
  | .lst xs, v, h => by
    unfold At at h ⊢
    obtain ⟨p, vs, e, hp, hl⟩ := h
    exact ⟨p, vs, e, s _ _ hp, AtL.keep s hl⟩
theorem AtL.keep {K : PySem.W.Frag} {H H' : Hp} (s : Same H H') : ∀ {ds : List Dt} {vs : List V}, AtL K H ds vs → AtL K H' ds vs
  | [], vs, h => by unfold AtL at h ⊢; exact h
  | d :: ds, vs, h => by
    unfold AtL at h ⊢
    obtain ⟨v, r, e, hd, hl⟩ := h
    exact ⟨v, r, e, At.keep s hd, AtL.keep s hl⟩
end
theorem AtL.snoc {K : PySem.W.Frag} {H : Hp} {d : Dt} {v : V} (hd : At K H d v) : ∀ {ds : List Dt} {vs : List V}, AtL K H ds vs → AtL K H (ds ++ [d]) (vs ++ [v])
  | [], vs, h => by
    unfold AtL at h
    subst h
    show AtL K H [d] [v]
    unfold AtL
    exact ⟨v, [], rfl, hd, by unfold AtL; rfl⟩
  | e :: ds, vs, h => by
    unfold AtL at h
    obtain ⟨u, r, rfl, he, h⟩ := h
    show AtL K H (e :: (ds ++ [d])) (u :: (r ++ [v]))
    unfold AtL
    exact ⟨u, _, rfl, he, AtL.snoc hd h⟩
mutual
/-- how deep a datum is, and that its rows are not too long -/
def dep : Dt → Nat
  | .tup xs => depL xs + 1
  | .lst xs => depL xs + 1
  | _ => 0
def depL : List Dt → Nat
  | [] => 0
  | d :: ds => max (dep d) (depL ds)
end
mutual
def narrow : Dt → Prop
  | .tup xs => xs.length ≤ 100000 ∧ narrowL xs
  | .lst xs => xs.length ≤ 100000 ∧ narrowL xs
  | _ => True
def narrowL : List Dt → Prop
  | [] => True
  | d :: ds => narrow d ∧ narrowL ds
end
theorem depL_get : ∀ {ds : List Dt} {i : Nat} {d : Dt}, ds[i]? = some d → dep d ≤ depL ds
  | [], _, _, e => by simp at e
  | d :: ds, 0, d', e => by
    have e : d = d' := Option.some.inj e
    subst e
    unfold depL
    exact Nat.le_max_left _ _
  | d :: ds, i + 1, d', e => by
    have h := depL_get (ds := ds) (i := i) e
    unfold depL
    exact Nat.le_trans h (Nat.le_max_right _ _)
theorem narrowL_get : ∀ {ds : List Dt} {i : Nat} {d : Dt}, narrowL ds → ds[i]? = some d → narrow d
  | [], _, _, _, e => by simp at e
  | d :: ds, 0, d', h, e => by
    have e : d = d' := Option.some.inj e
    subst e
    unfold narrowL at h
    exact h.1
  | d :: ds, i + 1, d', h, e => by
    unfold narrowL at h
    exact narrowL_get h.2 e
end OS
namespace OS
theorem deep_of {xs : List Dt} {n : Nat} (h : depL xs + 1 < n + 1) (hn : narrowL xs) : ∀ d ∈ xs, dep d < n ∧ narrow d := fun d hd => by
  obtain ⟨i, hi⟩ := List.mem_iff_getElem?.mp hd
  exact ⟨Nat.lt_of_le_of_lt (depL_get hi) (by omega), narrowL_get hn hi⟩
end OS
/-! ### the tape from which a law draws -/
namespace OS
open PySem PySem.Spec PyProof.Rows L2
theorem key_ne {a b : Str} (h : ¬ a = b) : ¬ (Sum.inr a : Key) = Sum.inr b := fun q => h (Sum.inr.inj q)
abbrev kS (x : Str) : Key := Sum.inr x
def tapeD (c : Addr) (i left seed salt : Int) : List (Key × V) :=
  [(kS "cells", .ref c), (kS "at", .int i), (kS "left", .int left), (kS "seed", .int seed), (kS "salt", .int salt)]
section
variable {c : Addr} {i left seed salt v : Int}
theorem n01 : ¬ kS "cells" = kS "at" := key_ne (by decide +kernel)
theorem n02 : ¬ kS "cells" = kS "left" := key_ne (by decide +kernel)
theorem n03 : ¬ kS "cells" = kS "seed" := key_ne (by decide +kernel)
theorem n04 : ¬ kS "cells" = kS "salt" := key_ne (by decide +kernel)
theorem n12 : ¬ kS "at" = kS "left" := key_ne (by decide +kernel)
theorem n13 : ¬ kS "at" = kS "seed" := key_ne (by decide +kernel)
theorem n14 : ¬ kS "at" = kS "salt" := key_ne (by decide +kernel)
theorem n23 : ¬ kS "left" = kS "seed" := key_ne (by decide +kernel)
theorem n24 : ¬ kS "left" = kS "salt" := key_ne (by decide +kernel)
theorem n34 : ¬ kS "seed" = kS "salt" := key_ne (by decide +kernel)
theorem n10 : ¬ kS "at" = kS "cells" := Ne.symm n01
theorem n21 : ¬ kS "left" = kS "at" := Ne.symm n12
theorem n31 : ¬ kS "seed" = kS "at" := Ne.symm n13
theorem n41 : ¬ kS "salt" = kS "at" := Ne.symm n14
theorem n32 : ¬ kS "seed" = kS "left" := Ne.symm n23
theorem n42 : ¬ kS "salt" = kS "left" := Ne.symm n24
theorem t_cells : valV (tapeD c i left seed salt) (kS "cells") = some (.ref c) := valV_pos rfl
theorem t_at : valV (tapeD c i left seed salt) (kS "at") = some (.int i) := (valV_neg n01).trans (valV_pos rfl)
theorem t_left : valV (tapeD c i left seed salt) (kS "left") = some (.int left) := (valV_neg n02).trans ((valV_neg n12).trans (valV_pos rfl))
theorem t_seed : valV (tapeD c i left seed salt) (kS "seed") = some (.int seed) := (valV_neg n03).trans ((valV_neg n13).trans ((valV_neg n23).trans (valV_pos rfl)))
theorem t_salt : valV (tapeD c i left seed salt) (kS "salt") = some (.int salt) := (valV_neg n04).trans ((valV_neg n14).trans ((valV_neg n24).trans ((valV_neg n34).trans (valV_pos rfl))))
theorem put_there {kvs : List (Key × V)} {k : Key} {v : V} {u : V} (h : valV kvs k = some u) : putK kvs k v = kvs.map (fun kv => if kv.1 = k then (kv.1, v) else kv) := by
  unfold putK
  rw [valV_any, h]
  exact if_pos rfl
theorem p_at : putK (tapeD c i left seed salt) (kS "at") (.int v) = tapeD c v left seed salt := by
  rw [put_there t_at]
  unfold tapeD
  simp only [List.map_cons, List.map_nil, if_neg n01, if_pos, if_neg n21, if_neg n31, if_neg n41]
theorem p_left : putK (tapeD c i left seed salt) (kS "left") (.int v) = tapeD c i v seed salt := by
  rw [put_there t_left]
  unfold tapeD
  simp only [List.map_cons, List.map_nil, if_neg n02, if_pos, if_neg n12, if_neg n32, if_neg n42]
theorem p_salt : putK (tapeD c i left seed salt) (kS "salt") (.int v) = tapeD c i left seed v := by
  rw [put_there t_salt]
  unfold tapeD
  simp only [List.map_cons, List.map_nil, if_neg n04, if_pos, if_neg n14, if_neg n24, if_neg n34]
end
theorem put_new {kvs : List (Key × V)} {k : Key} {v : V} (h : valV kvs k = none) : putK kvs k v = kvs ++ [(k, v)] := by
  unfold putK
  rw [valV_any, h]
  exact if_neg (by simp)
theorem merge_tape (c : Addr) (i left seed salt : Int) : mergeK [] (tapeD c i left seed salt) = tapeD c i left seed salt := by
  unfold tapeD mergeK
  simp only [List.foldl_cons, List.foldl_nil]
  rw [put_new (k := kS "cells") valV_nil, List.nil_append]
  rw [put_new (k := kS "at") ((valV_neg n01).trans valV_nil)]
  simp only [List.cons_append, List.nil_append]
  rw [put_new (k := kS "left") ((valV_neg n02).trans ((valV_neg n12).trans valV_nil))]
  simp only [List.cons_append, List.nil_append]
  rw [put_new (k := kS "seed") ((valV_neg n03).trans ((valV_neg n13).trans ((valV_neg n23).trans valV_nil)))]
  simp only [List.cons_append, List.nil_append]
  rw [put_new (k := kS "salt") ((valV_neg n04).trans ((valV_neg n14).trans ((valV_neg n24).trans ((valV_neg n34).trans valV_nil))))]
  rfl
/-- d is a tape: what it holds is not told, but that it is in order -/
structure TapeIs (H : Hp) (d c : Addr) (ns : List Int) (i : Nat) (left seed salt : Int) : Prop where
  hd : H d = some (.dK (tapeD c i left seed salt))
  hc : H c = some (.lst (ns.map V.int))
  hi : i ≤ ns.length
  hn : ∀ n ∈ ns, 0 ≤ n
  hl : 0 ≤ left
  hs : 0 ≤ seed ∧ seed < 2 ^ 62
  ht : 0 ≤ salt
section
variable {H : Hp} {d c : Addr} {ns : List Int} {i : Nat} {left seed salt : Int}
theorem TapeIs.gcells (t : TapeIs H d c ns i left seed salt) : DGet H d (.str "cells") (some (.ref c)) := t_cells (i := i) (left := left) (seed := seed) (salt := salt) ▸ DGet.k (k := kS "cells") t.hd
theorem TapeIs.gat (t : TapeIs H d c ns i left seed salt) : DGet H d (.str "at") (some (.int i)) := t_at (c := c) (left := left) (seed := seed) (salt := salt) ▸ DGet.k (k := kS "at") t.hd
theorem TapeIs.gleft (t : TapeIs H d c ns i left seed salt) : DGet H d (.str "left") (some (.int left)) := t_left (c := c) (i := i) (seed := seed) (salt := salt) ▸ DGet.k (k := kS "left") t.hd
theorem TapeIs.gseed (t : TapeIs H d c ns i left seed salt) : DGet H d (.str "seed") (some (.int seed)) := t_seed (c := c) (i := i) (left := left) (salt := salt) ▸ DGet.k (k := kS "seed") t.hd
theorem TapeIs.gsalt (t : TapeIs H d c ns i left seed salt) : DGet H d (.str "salt") (some (.int salt)) := t_salt (c := c) (i := i) (left := left) (seed := seed) ▸ DGet.k (k := kS "salt") t.hd
theorem TapeIs.pat (t : TapeIs H d c ns i left seed salt) (v : Int) : DPut H d (.str "at") (.int v) (upd H d (.dK (tapeD c v left seed salt))) := p_at (c := c) (i := i) (left := left) (seed := seed) (salt := salt) (v := v) ▸ DPut.k (k := kS "at") t.hd (by show 5 < sizeLine; decide)
theorem TapeIs.pleft (t : TapeIs H d c ns i left seed salt) (v : Int) : DPut H d (.str "left") (.int v) (upd H d (.dK (tapeD c i v seed salt))) := p_left (c := c) (i := i) (left := left) (seed := seed) (salt := salt) (v := v) ▸ DPut.k (k := kS "left") t.hd (by show 5 < sizeLine; decide)
theorem TapeIs.psalt (t : TapeIs H d c ns i left seed salt) (v : Int) : DPut H d (.str "salt") (.int v) (upd H d (.dK (tapeD c i left seed v))) := p_salt (c := c) (i := i) (left := left) (seed := seed) (salt := salt) (v := v) ▸ DPut.k (k := kS "salt") t.hd (by show 5 < sizeLine; decide)
theorem TapeIs.cd (t : TapeIs H d c ns i left seed salt) : c ≠ d := ne_of t.hc t.hd (by intro z; cases z)
theorem TapeIs.set (t : TapeIs H d c ns i left seed salt) {j : Nat} {l s : Int} (hj : j ≤ ns.length) (hl : 0 ≤ l) (hs : 0 ≤ s) : TapeIs (upd H d (.dK (tapeD c j l seed s))) d c ns j l seed s :=
  ⟨upd_same, by rw [upd_ne t.cd]; exact t.hc, hj, t.hn, hl, t.hs, hs⟩
end
def Tape (H : Hp) (d c : Addr) : Prop := ∃ ns i left seed salt, TapeIs H d c ns i left seed salt
/-- all but what stands at d is as it was -/
def Off (d : Addr) (H H' : Hp) : Prop := ∀ b, b ≠ d → H' b = H b
theorem Off.refl {d : Addr} {H : Hp} : Off d H H := fun _ _ => rfl
theorem Off.trans {d : Addr} {H H1 H2 : Hp} (a : Off d H H1) (b : Off d H1 H2) : Off d H H2 := fun x hx => (b x hx).trans (a x hx)
theorem off_upd {d : Addr} {H : Hp} {o : HO} : Off d H (upd H d o) := fun b hb => upd_ne hb
/-- all that stood, d apart, stands as it was -/
def Kept (d : Addr) (H H' : Hp) : Prop := ∀ b o, b ≠ d → H b = some o → H' b = some o
theorem Kept.refl {d : Addr} {H : Hp} : Kept d H H := fun _ _ _ h => h
theorem Kept.trans {d : Addr} {H H1 H2 : Hp} (a : Kept d H H1) (b : Kept d H1 H2) : Kept d H H2 := fun x o hx h => b x o hx (a x o hx h)
theorem Kept.of {d : Addr} {H H' : Hp} (s : Same H H') : Kept d H H' := fun b o _ h => s b o h
theorem Off.kept {d : Addr} {H H' : Hp} (s : Off d H H') : Kept d H H' := fun b o hb h => (s b hb).trans h
theorem Tape.at' {H H' : Hp} {d c : Addr} (h : Tape H d c) (e1 : H' d = H d) (e2 : H' c = H c) : Tape H' d c := by
  obtain ⟨ns, i, l, se, sa, h⟩ := h
  exact ⟨ns, i, l, se, sa, e1.trans h.hd, e2.trans h.hc, h.hi, h.hn, h.hl, h.hs, h.ht⟩
theorem Tape.keep {H H' : Hp} {d c : Addr} (s : Same H H') (h : Tape H d c) : Tape H' d c := by
  obtain ⟨ns, i, l, se, sa, h⟩ := h
  exact ⟨ns, i, l, se, sa, s _ _ h.hd, s _ _ h.hc, h.hi, h.hn, h.hl, h.hs, h.ht⟩
/-- a fresh address is not the tape's -/
theorem Tape.ne {H : Hp} {d c p : Addr} (h : Tape H d c) (hp : H p = none) : p ≠ d ∧ p ≠ c := by
  obtain ⟨ns, i, l, se, sa, h⟩ := h
  exact ⟨(ne_of_none h.hd hp).symm, (ne_of_none h.hc hp).symm⟩
theorem Tape.put {H : Hp} {d c p : Addr} {o : HO} (h : Tape H d c) (hp : p ≠ d ∧ p ≠ c) : Tape (upd H p o) d c := h.at' (upd_ne hp.1.symm) (upd_ne hp.2.symm)
theorem Kept.upd {H H' : Hp} {d p : Addr} {o : HO} (k : Kept d H H') (hp : H p = none) : Kept d H (upd H' p o) := fun b u hb e => by
  rw [upd_ne (ne_of_none e hp)]
  exact k b u hb e
def spTape (K : PySem.W.Frag) : Sp := fun vs H Q _ => ∃ (a : Addr) (ns : List Int), vs = [.ref a] ∧ SqL K H a (ns.map V.int) ∧ ns.length ≤ 63 ∧ ∀ d c H', Same H H' → H d = none → H c = none → Tape H' d c → Q (.ref d) H'
def spTake : Sp := fun vs H Q _ => ∃ (d c : Addr) (m : Int), vs = [.ref d, .int m] ∧ Tape H d c ∧ 0 < m ∧ m < 1000000 ∧ ∀ r H', 0 ≤ r → r < m → Tape H' d c → Off d H H' → Q (.int r) H'
end OS

/-! text.find(sign, i) -/
namespace OS
open PySem PySem.Spec L2 PySem.StrLaws Builtin Builtin.Str
theorem occ_full (s sub : Str) (hi : Nat) : ∀ (l : List Nat) (st : Array Nat × Nat), st.fst.size = 1 → (forIn l st (occBody s sub hi 1)).run.fst = st.fst
  | [], st, h => rfl
  | a :: l, st, h => by
    rw [List.forIn_cons]
    unfold occBody
    rw [if_neg (fun q => by have := q.1.1.1; omega)]
    exact occ_full s sub hi l (st.fst, st.snd) h
theorem occ_first (s sub : Str) (hi : Nat) : ∀ (l : List Nat) (free : Nat), (∀ i ∈ l, free ≤ i) →
    (forIn l ((#[] : Array Nat), free) (occBody s sub hi 1)).run.fst.toList = (l.find? fun i => decide (i + sub.length ≤ hi ∧ subAt s sub i = true)).toList
  | [], free, _ => rfl
  | a :: l, free, hf => by
    rw [List.forIn_cons]
    unfold occBody
    have ha : free ≤ a := hf a (List.mem_cons_self ..)
    by_cases hc : a + sub.length ≤ hi ∧ subAt s sub a = true
    · have c1 : (((#[] : Array Nat), free).fst.size < 1 ∧ ((#[] : Array Nat), free).snd ≤ a) ∧ a + sub.length ≤ hi := ⟨⟨by simp, ha⟩, hc.1⟩
      rw [if_pos ⟨c1, hc.2⟩, List.find?_cons, decide_eq_true hc]
      have e := occ_full s sub hi l (((#[] : Array Nat), free).fst.push a, a + sub.length) (by simp)
      have e2 := congrArg Array.toList e
      exact e2
    · have c2 : ¬ (((((#[] : Array Nat), free).fst.size < 1 ∧ ((#[] : Array Nat), free).snd ≤ a) ∧ a + sub.length ≤ hi) ∧ subAt s sub a = true) := fun h => hc ⟨h.1.2, h.2⟩
      rw [if_neg c2, List.find?_cons, decide_eq_false hc]
      exact occ_first s sub hi l free (fun i hi' => hf i (List.mem_cons_of_mem _ hi'))
theorem find_range (cs : List Nat) (c : Nat) : ∀ (n lo : Nat), lo + n = cs.length + 1 →
    (List.range' lo n).find? (fun i => decide (cs[i]? = some c)) = if run (fun x => x != c) cs lo < cs.length then some (run (fun x => x != c) cs lo) else none
  | 0, lo, h => by
    rw [run_end (by omega), if_neg (by omega)]
    rfl
  | n + 1, lo, h => by
    rw [List.range'_succ, List.find?_cons]
    by_cases e : cs[lo]? = some c
    · rw [decide_eq_true e, run_stop e (by simp), if_pos (List.getElem?_eq_some_iff.mp e).1]
    · rw [decide_eq_false e]
      show (List.range' (lo + 1) n).find? _ = _
      by_cases hl : lo < cs.length
      · have g := List.getElem?_eq_getElem hl
        rw [find_range cs c n (lo + 1) (by omega), ← run_go g (by
          rw [bne_iff_ne]
          intro z
          rw [z] at g
          exact e g)]
      · rw [find_range cs c n (lo + 1) (by omega), run_end (i := lo) (by omega), run_end (i := lo + 1) (by omega), if_neg (by omega), if_neg (by omega)]
theorem find3_one (z : Str) (c i : Nat) (hi : i ≤ z.length) : Txt.find3 z ⟨#[c]⟩ (i : Int) = if run (fun x => x != c) z.cps.toList i < z.length then ((run (fun x => x != c) z.cps.toList i : Nat) : Int) else -1 := by
  have hf : fromIndex z.length (i : Int) = i := by
    unfold fromIndex
    rw [if_neg (by omega)]
    omega
  have hz := len_cps z
  unfold Txt.find3
  rw [hf, occ_eq, occ_first z ⟨#[c]⟩ z.length _ i (fun j hj => (List.mem_range'_1.mp hj).1)]
  have e1 : (fun j => decide (j + (⟨#[c]⟩ : Str).length ≤ z.length ∧ subAt z ⟨#[c]⟩ j = true)) = (fun j => decide (z.cps.toList[j]? = some c)) := by
    funext j
    exact decide_eq_decide.mpr (subAt_one z c j)
  rw [e1, find_range _ _ _ _ (by omega)]
  rw [← hz]
  by_cases h : run (fun x => x != c) z.cps.toList i < z.length
  · rw [if_pos h, if_pos h]
    rfl
  · rw [if_neg h, if_neg h]
    rfl
end OS

set_option maxHeartbeats 4000000
/-! An own exception's __init__ that says super().__init__(text) and then self.f = x: its promise. -/
namespace OS
open PySem PySem.Spec PyProof.Rows L2
/-- the promise: the exception at a gets a dict with its one field -/
def spExcI (C : Addr) (fld : Str) : Sp := fun vs H Q _ => ∃ (a : Addr) (v : V), vs = [.ref a, v] ∧ H a = some (exo a C none) ∧ ∀ dx, H dx = none → dx ≠ a → Q .non (upd (upd H dx (exd dx [(fld, v)])) a (exo a C (some dx)))
/-- the body -/
abbrev supBody (msg fld arg : Str) (p0 p1 p2 p3 p4 p5 q0 q1 q2 q3 : Pos) (j : Nat) : List Stmt :=
  [.Expr (.Call (.Attribute (.Call (.Name "super" p0) [] [] p1) "__init__" p2) [.Constant (.str msg) j p3] [] p4) p5,
   .Assign [.Attribute (.Name "self" q0) fld q1] (.Name arg q2) q3]
section
variable {P : Program} {w : World} {K : PySem.W.Frag} {mg : Str → Option Value} {base : Heap}
theorem fn_super {msg fld arg qual : Str} {p0 p1 p2 p3 p4 p5 q0 q1 q2 q3 : Pos} {j : Nat} {f C cc cda : Addr} {params : Arguments} {scope : Scope} {dV kV doc pm ct oc ccl cl : Value} {an od cdd cld : Option Addr} {osl ccs csl : Array (Option Value)}
    {vs2 : Array Value} {file : Str} {tf : Tok} {ar : Arg} {cd : ClassData}
    (lk : K.lookup f = some ⟨oc, od, .func (PySem.W.ksFn "__init__" qual params (supBody msg fld arg p0 p1 p2 p3 p4 p5 q0 q1 q2 q3 j) scope dV kV doc pm an (.ref cda) ct cc), osl⟩)
    (hcd : PySem.W.codeIn K (.ref cda) qual = true) (T : OexC K C)
    (kS : scope.names.lookup ("self" : Str) = some .local) (kA : scope.names.lookup arg = some .local) (kCl : scope.names.lookup ("__class__" : Str) = some .free) (kSu : scope.names.lookup ("super" : Str) = some .globalImplicit) (hnocell : ∀ x ∈ scope.names, x.2 ≠ .cell) (hk : scope.kind = .function) (hco : scope.isCoroutine = false) (hgen : scope.isGenerator = false)
    (hparS : (params.posonlyargs ++ params.args).head? = some ar) (harS : ar.arg = "self") (hself : ¬ arg = "self") (hdb : ¬ arg = "__debug__")
    (hcode : K.lookup cda = some ⟨ccl, cdd, .fields vs2, ccs⟩) (hvs : vs2[2]? = some (.str file tf)) (hfile : ((P.main.file : Str) == file) = true) (htop : (P.main.scope.names.lookup ("super" : Str)).isSome = false)
    (hcell : K.lookup cc = some ⟨cl, cld, .cell (some (.ref C)), csl⟩) (hD : PySem.W.clsIn K C = some cd) (hsub : PySem.W.mroIn K C (.ref C) = some true) (hsuper : mg "super" = none)
    (hany : PySem.W.nsIn K cStatics "thirdparty.any" = some none) (hinit : PySem.W.ks_superIn K C C "__init__" = some (some (.builtin "ValueError.__init__"))) (hVE : PySem.W.subIn K (.ref C) (.type "ValueError") = some true)
    (hno : PySem.W.findIn K (.ref C) fld = some none)
    (he : ∀ env : Env, ∃ pl : Sem Bool, eval (.Call (.Attribute (.Call (.Name "super" p0) [] [] p1) "__init__" p2) [.Constant (.str msg) j p3] [] p4) env = (do
      let ov ← attributeBase (.Call (.Name "super" p0) [] [] p1) "__init__" env (eval (.Call (.Name "super" p0) [] [] p1) env)
      standAt p2.atName
      let (f, first) ← holding [ov] (getMethod ov "__init__" pl)
      callWith p4 f first (backTo p4 (starEach [.Constant (.str msg) j p3] env)) [])) :
    FnOk P w K mg base CX0 1 f (PySem.W.ksFn "__init__" qual params (supBody msg fld arg p0 p1 p2 p3 p4 p5 q0 q1 q2 q3 j) scope dV kV doc pm an (.ref cda) ct cc) ["self", arg] (spExcI C fld) := by
  obtain ⟨kind, names, gen, co, more⟩ := scope
  dsimp only at kS kA kCl kSu hnocell hk hco hgen
  subst hk hco hgen
  refine ⟨fun vs H Q E h => ?_, fun A outer s H args us vs Q E hr e0 hb r hsp => ?_⟩
  · obtain ⟨a, v, rfl, _⟩ := h
    rfl
  · obtain ⟨a, v, rfl, hHa, k⟩ := hsp
    cases r with
    | cons r1 r => cases r with
      | cons r2 r => cases r with
        | nil =>
    rename_i ua uv
    cases (show ua = Value.ref a from r1)
    have KX : K.In s.heap := e0.mod.kin.keeps fun b o e => (e0.bs b o e).1
    have lim : s.heap.NoLimit := e0.mod.nolimit.keeps fun b o e => (e0.bs b o e).1
    refine PySem.ks_codeAny_call_defAt (binds := [("self", .ref a), (arg, uv)]) hr.depth (KX _ _ lk) rfl lim (PySem.W.codeRec_of KX hcd) rfl hb hnocell ?_ (fun h1 hn1 k1 => ?_) rfl rfl rfl
    · intro x hx
      simp only [List.mem_cons, List.not_mem_nil, or_false] at hx
      rcases hx with rfl | rfl
      · exact kS
      · exact kA
    · have keep1 : ∀ b o, s.heap.get? b = some o → h1.get? b = some o := k1
      have K1 : K.In h1 := KX.keeps k1
      obtain ⟨ox, hox, hoxe⟩ : ∃ ox : Obj, s.heap.get? a = some ox ∧ ∃ t1 : Addr, ox = { cls := .ref C, dict := none, data := .fields #[.ref t1, .none, .none, .none, .bool false, .none] } := by
        obtain ⟨t1, ho⟩ := exo_at e0.hok hHa
        exact ⟨_, ho, t1, rfl⟩
      obtain ⟨t1, rfl⟩ := hoxe
      have haC : a ≠ C := by
        rintro rfl
        obtain ⟨nm, q, N, bs, bm, sn, sub, ab, col, dd, k0, k1', k2, k3, k5, hC, _⟩ := T.cls
        have := KX _ _ hC
        rw [hox] at this
        cases this
      obtain ⟨oD, hD1, hD2⟩ : ∃ oD, h1.get? C = some oD ∧ oD.data = .cls cd := by
        unfold PySem.W.clsIn at hD
        split at hD
        · rename_i c d cd' sl ho
          cases hD
          exact ⟨_, K1 _ _ ho, rfl⟩
        · cases hD
      obtain ⟨pl, hpl⟩ := he (callEnv _ s.heap.objs.size f)
      refine PySem.ks_wpAt_execs_cons (PySem.ks_wpAt_Expr_any (PySem.ks_wpAt_MethodCall ?_ hpl))
      refine PySem.ks_wpAt_super_base kSu kCl rfl rfl (k1 _ _ (KX _ _ lk)) rfl hparS rfl (k1 _ _ (KX _ _ hcode)) rfl hvs hfile htop ?_
      obtain ⟨mb, hb1, hb2⟩ := e0.mod.blt
      have kb : ∀ b o, base.get? b = some o → h1.get? b = some o := fun b o e => k1 _ _ (e0.bs b o e).1
      refine PySem.W.ks_loadName_global rfl kSu (Calls.loadGlobal_builtin (e0.mod.glob.keeps kb) hsuper (hb1.keeps kb) ((hb2 _ (by decide)).trans (show bootBuiltins "super" = some (.type "super") by decide +kernel)) ⟨rfl, ?_⟩)
      refine wpAny_loadName_free rfl kCl rfl ⟨_, K1 _ _ hcell, rfl⟩ ?_
      refine wpAny_loadName_local rfl (by rw [harS]; exact kS) hn1 (v := .ref a) ?_ ?_
      · rw [harS]
        have n1 : (("self" : Str) == arg) = false := beq_eq_false_iff_ne.mpr fun q => hself q.symm
        show List.lookup ("self" : Str) [(arg, uv), ("self", Value.ref a)] = some (.ref a)
        rw [List.lookup_cons, n1, List.lookup_cons, beq_self_eq_true]
      · refine PySem.ks_wpAny_isType_cls hD1 hD2 ⟨rfl, ?_⟩
        refine PySem.ks_wpAny_call_super hD1 hD2 (k1 _ _ hox) rfl (fun c e => by cases e) (PySem.W.looks_mroIn K1 hsub) (fun h2 e2 k2 => ?_)
        have K2 : K.In h2 := K1.keeps k2
        have hox2 := k2 _ _ (k1 _ _ hox)
        have I2 : PySem.W.InstAt h2 a { cls := .ref C, dict := none, data := .fields #[.ref t1, .none, .none, .none, .bool false, .none] } C none := ⟨hox2, rfl, rfl, trivial⟩
        unfold PySem.W.ks_superIn at hinit
        rw [hD] at hinit
        refine PySem.W.kxs_getMethod PySem.W.kxs_ValueError e2 (PySem.W.looks_opaque K2 hany) (l₀ := cd.mro) (fun A Q E s k q => wpAny_bind ((PySem.W.looks_clsIn K2 hD) A _ E s k (wpAny_pure q))) rfl K2 hinit (I2.type.andThen (PySem.W.looks_subIn K2 hVE)) haC rfl ?_
        have lt1 : a < s.heap.objs.size := Heap.lt_size hox
        obtain ⟨oL, es, ep, hL, rL⟩ := id hn1
        have sz1 : s.heap.objs.size ≤ h2.objs.size := Nat.le_of_lt (Heap.lt_size (k2 _ _ hL))
        have k3 : ∀ b o, h2.get? b = some o → (h2.push (PySem.W.kxs_mw "ValueError.__init__" a)).get? b = some o := fun b o e => Heap.get?_push_of_some _ e
        have hu3 : (h2.push (PySem.W.kxs_mw "ValueError.__init__" a)).get? h2.objs.size = some (PySem.W.kxs_mw "ValueError.__init__" a) := Heap.get?_push_at rfl rfl
        have hox3 := k3 _ _ hox2
        generalize h2.push (PySem.W.kxs_mw "ValueError.__init__" a) = h3 at k3 hu3 hox3 ⊢
        refine PySem.W.kxs_callWith (i := "ValueError.__init__") (x := a) rfl (PySem.Calls.evalArgs_plain (Calls.spliced_cons ?_))
        refine Calls.Constant_str (pos := p3) (k := j) (Calls.spliced_nil ⟨hu3, ?_⟩)
        obtain ⟨nm, q, N, bs, bm, sn, sub, ab, col, dd, kk0, kk1, kk2, kk3, kk5, hC, hbm⟩ := T.cls
        have FB := PySem.F.excBase_ValueError
        have hC3 := k3 _ _ (k2 _ _ (K1 _ _ hC))
        refine wpAny_call (codeAny_of_tree ?_); show wpAny _ _ (callAny (.ref h2.objs.size) ⟨_, []⟩) _ _ _; simp only [callAny]
        refine wpAny_bind (wpAny_load hu3 ?_); simp only [PySem.W.kxs_mw, show (Value.type "method-wrapper" == Value.type "method" || Value.type "method-wrapper" == Value.type "builtin_function_or_method" || Value.type "method-wrapper" == Value.type "method-wrapper") = true by decide, if_true]
        refine PySem.W.KFB.if_so (by decide) (wpAny_bind (PySem.W.check_bound_init FB.toExcCallFacts hC3 hox3 rfl ?_)); refine wpAny_bind (wpAny_pure (wpAny_pure ?_))
        refine ⟨plainId_quiet FB.init.plain _, codeAny_builtin FB.initEntry (PySem.W.exc_init_tree (cls := .ref C) (t0 := t1) (dv := none) (c2 := .none) (c3 := .none) (b4 := .bool false) hox3 (by show 1 ≤ sizeLine; decide) fun h4 k4 e4 t4 => ?_)⟩
        have k04 : ∀ b o, b ≠ a → s.heap.get? b = some o → h4.get? b = some o := fun b o hb e => k4 _ _ hb (k3 _ _ (k2 _ _ (k1 _ _ e)))
        have K4 : K.In h4 := fun b o e => by
          have hb := e0.mod.kin _ _ e
          obtain ⟨e1, e2⟩ := e0.bs _ _ hb
          exact k04 _ _ (fun z => by rw [z, hHa] at e2; cases e2) e1
        have hn4 : h4.Ns s.heap.objs.size (fun x => List.lookup x [((Str.ofString "self"), Value.ref a), (arg, uv)].reverse) := ⟨oL, es, ep, k4 _ _ (Nat.ne_of_gt lt1) (k3 _ _ (k2 _ _ hL)), rL⟩
        refine PySem.ks_wpAt_execs_cons (PySem.ks_wpAt_Assign_Attr (PySem.wpAt_of_wpAny (PySem.ldc rfl kA hn4 (v := uv) ?_ (PySem.ldc rfl kS hn4 (v := .ref a) ?_ ?_ ?_) ?_)))
        · show List.lookup arg [(arg, uv), (("self" : Str), Value.ref a)] = some uv
          rw [List.lookup_cons, beq_self_eq_true]
        · have n1 : (("self" : Str) == arg) = false := beq_eq_false_iff_ne.mpr fun q => hself q.symm
          show List.lookup ("self" : Str) [(arg, uv), ("self", Value.ref a)] = some (.ref a)
          rw [List.lookup_cons, n1, List.lookup_cons, beq_self_eq_true]
        · have hcl : PySem.W.clsIn K C = some { name := nm, bases := bs, mro := .ref C :: bm, ns := N, qualname := q, hasDict := true, slotNames := sn, subclasses := sub, abstract := ab, collection := col, hasDel := false } := by
            unfold PySem.W.clsIn
            rw [hC] <;> rfl
          refine PySem.W.set_plain K4 (ox := { cls := .ref C, dict := none, data := .fields #[.ref h3.objs.size, .none, .none, .none, .bool false, .none] }) (od := none) ⟨e4, rfl, rfl, trivial⟩ T.sa ?_
          refine PySem.HandSPX.exc_osa K4 e4 hcl (show PySem.HandSPX.refsVE (.ref C :: bm) = true from hbm) rfl hno (fun h5 tk5 dx k5 ldx dne e5 n5 => ?_)
          have k05 : ∀ b o, b ≠ a → s.heap.get? b = some o → h5.get? b = some o := fun b o hb e => k5 _ _ hb (k04 _ _ hb e)
          have szd : s.heap.objs.size ≤ dx := by
            have : s.heap.objs.size < h4.objs.size := Heap.lt_size (k4 _ _ (Nat.ne_of_gt lt1) (k3 _ _ (k2 _ _ hL)))
            exact Nat.le_of_lt (Nat.lt_of_lt_of_le this ldx)
          have Hdx : H dx = none := e0.hok.fresh szd
          have nb : ∀ {b : Addr} {o : Obj}, s.heap.get? b = some o → b ≠ dx := fun {b o} e => Nat.ne_of_lt (Nat.lt_of_lt_of_le (Heap.lt_size e) szd)
          have nh : ∀ {b : Addr}, H b = none → b ≠ a := fun {b} e z => by rw [z, hHa] at e; cases e
          have U : Un (frs outer) [] H (upd (upd H dx (exd dx [(fld, v)])) a (exo a C (some dx))) s.heap h5 := by
            constructor
            · exact fun b o e n _ _ => k05 b o (nh n) e
            · exact fun b o e n _ _ => ⟨o.slots, k05 b o (nh n) e⟩
            · intro b o e n _
              rw [upd_ne (nh n), upd_ne (nb e)]
              exact n
            · intro b o e _
              by_cases hb : b = a
              · subst hb
                exact ⟨_, e5⟩
              · exact ⟨o, k05 b o hb e⟩
            · intro b xs e
              rw [upd_ne (at_ne hHa e exo_tup), upd_ne (ne_of_none e Hdx)]
              exact e
            · intro b o u e
              rw [upd_ne (at_ne hHa e exo_frz), upd_ne (ne_of_none e Hdx)]
              exact e
            · intro b ps e
              refine ⟨#[], ?_⟩
              rw [upd_ne (at_ne hHa e exo_tbl), upd_ne (ne_of_none e Hdx), e]
              simp
          refine PySem.wpAt_of_wpAny (wpAny_pure ?_)
          refine ⟨.non, _, rfl, e0.bare, U, fun b o e => ?_, rfl, k dx Hdx dne⟩
          by_cases hb : b = a
          · subst hb
            rw [upd_same] at e
            cases e
            exact exo_ok e5
          · rw [upd_ne hb] at e
            by_cases hd : b = dx
            · subst hd
              rw [upd_same] at e
              cases e
              exact exd_ok n5 (relO_put (fs := []) r2 fun g => True.intro)
            · rw [upd_ne hd] at e
              refine (e0.hok b o e).stay (fun c u hc z => k05 c u ?_ z) (fun c hc => ?_) (fun c xs hc => ?_)
              · rcases hc with hc | hc
                · rw [hc]
                  exact hb
                · exact at_ne hHa hc exo_own
              · rw [upd_ne (at_ne hHa hc exo_own), upd_ne (ne_of_none hc Hdx)]
                exact hc
              · rw [upd_ne (at_ne hHa hc exo_tup), upd_ne (ne_of_none hc Hdx)]
                exact hc
        · decide +kernel
        · exact beq_eq_false_iff_ne.mpr hdb
end
end OS

/-! Dicts from nested tuples to ints. -/
namespace OS
open PySem PySem.Spec PyProof.Rows L2
mutual
/-- data as a key -/
def nkD : Dt → NestedKey
  | .non => .none
  | .bl b => .num (if b = true then 1 else 0)
  | .int i => .num i
  | .str x => .text x
  | .tup xs => .tup (nkL xs)
  | .lst _ => .none
def nkL : List Dt → List NestedKey
  | [] => []
  | d :: r => nkD d :: nkL r
end
mutual
/-- data that may be a key, or a part of one: no lists, no bools -/
def kable : Dt → Prop
  | .non => True
  | .bl _ => False
  | .int _ => True
  | .str _ => True
  | .tup xs => kableL xs
  | .lst _ => False
def kableL : List Dt → Prop
  | [] => True
  | d :: r => kable d ∧ kableL r
end
mutual
theorem nk_inj : ∀ {a b : Dt}, kable a → kable b → nkD a = nkD b → a = b
  | .non, .non, _, _, _ => rfl
  | .int i, .int j, _, _, h => by
    simp only [nkD] at h
    injection h with h
    rw [h]
  | .str i, .str j, _, _, h => by
    simp only [nkD] at h
    injection h with h
    rw [h]
  | .tup x, .tup y, h1, h2, h => by
    simp only [nkD] at h
    injection h with h
    simp only [kable] at h1 h2
    rw [nkL_inj h1 h2 h]
  | .bl _, _, h1, _, _ => by simp only [kable] at h1
  | _, .bl _, _, h2, _ => by simp only [kable] at h2
  | .lst _, _, h1, _, _ => by simp only [kable] at h1
  | _, .lst _, _, h2, _ => by simp only [kable] at h2
  | .non, .int _, _, _, h => by simp only [nkD] at h; cases h
  | .non, .str _, _, _, h => by simp only [nkD] at h; cases h
  | .non, .tup _, _, _, h => by simp only [nkD] at h; cases h
  | .int _, .non, _, _, h => by simp only [nkD] at h; cases h
  | .int _, .str _, _, _, h => by simp only [nkD] at h; cases h
  | .int _, .tup _, _, _, h => by simp only [nkD] at h; cases h
  | .str _, .non, _, _, h => by simp only [nkD] at h; cases h
  | .str _, .int _, _, _, h => by simp only [nkD] at h; cases h
  | .str _, .tup _, _, _, h => by simp only [nkD] at h; cases h
  | .tup _, .non, _, _, h => by simp only [nkD] at h; cases h
  | .tup _, .int _, _, _, h => by simp only [nkD] at h; cases h
  | .tup _, .str _, _, _, h => by simp only [nkD] at h; cases h
theorem nkL_inj : ∀ {a b : List Dt}, kableL a → kableL b → nkL a = nkL b → a = b
  | [], [], _, _, _ => rfl
  | x :: r, y :: q, h1, h2, h => by
    simp only [nkL] at h
    injection h with e1 e2
    simp only [kableL] at h1 h2
    rw [nk_inj h1.1 h2.1 e1, nkL_inj h1.2 h2.2 e2]
  | [], _ :: _, _, _, h => by simp only [nkL] at h; cases h
  | _ :: _, [], _, _, h => by simp only [nkL] at h; cases h
end
mutual
theorem nk_depth : ∀ {a : Dt}, kable a → (nkD a).depth = dep a
  | .non, _ => by simp only [nkD, NestedKey.depth, dep]
  | .int _, _ => by simp only [nkD, NestedKey.depth, dep]
  | .str _, _ => by simp only [nkD, NestedKey.depth, dep]
  | .tup xs, h => by
    simp only [kable] at h
    simp only [nkD, NestedKey.depth, dep]
    rw [nkL_depth h]
  | .bl _, h => by simp only [kable] at h
  | .lst _, h => by simp only [kable] at h
theorem nkL_depth : ∀ {a : List Dt}, kableL a → NestedKey.depthAll (nkL a) = depL a
  | [], _ => by simp only [nkL, NestedKey.depthAll, depL]
  | d :: r, h => by
    simp only [kableL] at h
    simp only [nkL, NestedKey.depthAll, depL]
    rw [nk_depth h.1, nkL_depth h.2]
end
section
variable {X : Cx} {pins : List (Addr × Obj)} {σ : L2.St} {H : Hp} {s : Shared}
mutual
theorem nk_is (I : Inv X pins σ H s) : ∀ {d : Dt} {v : V} {u : Value}, kable d → At X.K H d v → RelV v u → NestedIs s.heap (nkD d) u
  | .non, v, u, _, h, r => by
    unfold At at h
    subst h
    cases r
    simp only [nkD]
    exact .none
  | .int i, v, u, _, h, r => by
    unfold At at h
    subst h
    obtain ⟨t, rfl⟩ := r
    simp only [nkD]
    exact .int i t
  | .str x, v, u, _, h, r => by
    unfold At at h
    subst h
    obtain ⟨t, rfl⟩ := r
    simp only [nkD]
    exact .text x t
  | .tup xs, v, u, hk, h, r => by
    simp only [kable] at hk
    unfold At at h
    obtain ⟨p, vs, rfl, hp, hl⟩ := h
    obtain rfl : u = Value.ref p := r
    obtain ⟨_, its, rv, o, ho, hc, n, hd⟩ := (I.hok p _ hp : ObjOk X.prog X.w H s.heap p (.tup vs))
    simp only [nkD]
    exact .tup ho hc hd (by rw [List.toList_toArray]; exact nkL_is I hk hl rv)
  | .bl _, _, _, hk, _, _ => by simp only [kable] at hk
  | .lst _, _, _, hk, _, _ => by simp only [kable] at hk
theorem nkL_is (I : Inv X pins σ H s) : ∀ {ds : List Dt} {vs : List V} {us : List Value}, kableL ds → AtL X.K H ds vs → Vals vs us → NestedAll s.heap (nkL ds) us
  | [], vs, us, _, h, r => by
    unfold AtL at h
    subst h
    cases r
    simp only [nkL]
    exact .nil
  | d :: ds, vs, us, hk, h, r => by
    simp only [kableL] at hk
    unfold AtL at h
    obtain ⟨v, q, rfl, h1, h2⟩ := h
    cases r with
    | cons r1 r2 =>
      simp only [nkL]
      exact .cons (nk_is I hk.1 h1 r1) (nkL_is I hk.2 h2 r2)
end
end
/-- the dict at a has these entries, as they stand -/
def dkN (P : Program) (w : World) (a : Addr) (xs : List (NestedKey × Addr × Value)) : HO := .ext fun h => ∃ o es ep, h.get? a = some o ∧ o.ExactDict ∧ o.data = .dict es ep ∧ es.toList = xs.map (entryOfKey (nestedKind P w))
theorem dkN_ok {P : Program} {w : World} {H : Hp} {h : Heap} {a : Addr} {xs : List (NestedKey × Addr × Value)} (x : ∃ o es ep, h.get? a = some o ∧ o.ExactDict ∧ o.data = .dict es ep ∧ es.toList = xs.map (entryOfKey (nestedKind P w))) : ObjOk P w H h a (dkN P w a xs) := by
  refine ⟨x, ?_, ?_⟩
  · obtain ⟨o, _, _, e, _⟩ := x
    exact ⟨o, e⟩
  · rintro h1 h2 ⟨o, es, ep, e, r⟩ k
    exact ⟨o, es, ep, k o e, r⟩
/-- what a key is -/
structure Ky (K : PySem.W.Frag) (H : Hp) (d : Dt) (b : Addr) : Prop where
  cells : At K H d (.ref b)
  ok : kable d
  low : dep d ≤ 8
/-- a dict from data to ints, in the order of insertion -/
structure DkN (P : Program) (w : World) (K : PySem.W.Frag) (H : Hp) (a : Addr) (kvs : List (Dt × Int)) : Prop where
  ex : ∃ xs, H a = some (dkN P w a xs) ∧ Paired (fun (p : Dt × Int) (x : NestedKey × Addr × Value) => x.1 = nkD p.1 ∧ Ky K H p.1 x.2.1 ∧ ∃ t, x.2.2 = .int p.2 t) kvs xs
  nd : (kvs.map (·.1)).Nodup
  sz : kvs.length ≤ 100000
  nm : (a == sysModules) = false
def valI (kvs : List (Dt × Int)) (d : Dt) : Option Int := (kvs.find? fun p => decide (nkD p.1 = nkD d)).map (·.2)
theorem paired_len {α β : Type} {R : α → β → Prop} : ∀ {as : List α} {bs : List β}, Paired R as bs → as.length = bs.length
  | _, _, .nil => rfl
  | _, _, .cons _ r => congrArg (· + 1) (paired_len r)
theorem paired_mem {α β : Type} {R : α → β → Prop} : ∀ {as : List α} {bs : List β}, Paired R as bs → ∀ b ∈ bs, ∃ a ∈ as, R a b
  | _, _, .nil, _, h => by cases h
  | _, _, .cons h r, b, hb => by
    rcases List.mem_cons.mp hb with e | e
    · subst e
      exact ⟨_, List.mem_cons_self, h⟩
    · obtain ⟨a, ha, hr⟩ := paired_mem r b e
      exact ⟨a, List.mem_cons_of_mem _ ha, hr⟩
theorem paired_snoc {α β : Type} {R : α → β → Prop} : ∀ {as : List α} {bs : List β} {a : α} {b : β}, Paired R as bs → R a b → Paired R (as ++ [a]) (bs ++ [b])
  | _, _, _, _, .nil, h => .cons h .nil
  | _, _, _, _, .cons h0 r, h => .cons h0 (paired_snoc r h)
abbrev Ent (K : PySem.W.Frag) (H : Hp) (p : Dt × Int) (x : NestedKey × Addr × Value) : Prop := x.1 = nkD p.1 ∧ Ky K H p.1 x.2.1 ∧ ∃ t, x.2.2 = .int p.2 t
theorem ent_nodup {K : PySem.W.Frag} {H : Hp} : ∀ {kvs : List (Dt × Int)} {xs : List (NestedKey × Addr × Value)}, Paired (Ent K H) kvs xs → (kvs.map (·.1)).Nodup → (xs.map (·.1)).Nodup
  | _, _, .nil, _ => List.nodup_nil
  | _, _, .cons (a := p) (b := x) h r, hn => by
    rw [List.map_cons, List.nodup_cons] at hn ⊢
    refine ⟨fun hm => ?_, ent_nodup r hn.2⟩
    obtain ⟨y, hy, ey⟩ := List.mem_map.mp hm
    obtain ⟨q, hq, hR⟩ := paired_mem r y hy
    have e : nkD q.1 = nkD p.1 := by rw [← hR.1, ey, h.1]
    have := nk_inj hR.2.1.ok h.2.1.ok e
    exact hn.1 (List.mem_map.mpr ⟨q, hq, this⟩)
theorem ent_at {K : PySem.W.Frag} {H : Hp} {d : Dt} : ∀ {kvs : List (Dt × Int)} {xs : List (NestedKey × Addr × Value)}, Paired (Ent K H) kvs xs →
    (valI kvs d = none ∧ atKey xs (nkD d) = none) ∨ ∃ n b t, valI kvs d = some n ∧ atKey xs (nkD d) = some (b, .int n t)
  | _, _, .nil => .inl ⟨rfl, rfl⟩
  | _, _, .cons (l₁ := kvs) (l₂ := xs) (a := p) (b := x) h r => by
    obtain ⟨e1, _, t, e2⟩ := h
    by_cases c : nkD p.1 = nkD d
    · refine .inr ⟨p.2, x.2.1, t, ?_, ?_⟩
      · unfold valI
        rw [List.find?_cons, decide_eq_true c]
        rfl
      · unfold atKey
        rw [List.find?_cons, e1, decide_eq_true c]
        show some x.2 = _
        rw [← e2]
    · have f1 : valI (p :: kvs) d = valI kvs d := by
        unfold valI
        rw [List.find?_cons, decide_eq_false c]
      have f2 : atKey (x :: xs) (nkD d) = atKey xs (nkD d) := by
        unfold atKey
        rw [List.find?_cons, e1, decide_eq_false c]
      rw [f1, f2]
      exact ent_at r
theorem ent_keep {K : PySem.W.Frag} {H H' : Hp} (k : ∀ d b, Ky K H d b → Ky K H' d b) : ∀ {kvs : List (Dt × Int)} {xs : List (NestedKey × Addr × Value)}, Paired (Ent K H) kvs xs → Paired (Ent K H') kvs xs
  | _, _, .nil => .nil
  | _, _, .cons h r => .cons ⟨h.1, k _ _ h.2.1, h.2.2⟩ (ent_keep k r)
mutual
/-- keys stand where no tuple is touched -/
theorem ky_at {K : PySem.W.Frag} {H H' : Hp} (k : ∀ b xs, H b = some (.tup xs) → H' b = some (.tup xs)) : ∀ {d : Dt} {v : V}, kable d → At K H d v → At K H' d v
  | .non, v, _, h => by unfold At at h ⊢; exact h
  | .int i, v, _, h => by unfold At at h ⊢; exact h
  | .str x, v, _, h => by unfold At at h ⊢; exact h
  | .tup xs, v, hk, h => by
    simp only [kable] at hk
    unfold At at h ⊢
    obtain ⟨p, vs, e, hp, hl⟩ := h
    exact ⟨p, vs, e, k _ _ hp, kyL_at k hk hl⟩
  | .bl _, _, hk, _ => by simp only [kable] at hk
  | .lst _, _, hk, _ => by simp only [kable] at hk
theorem kyL_at {K : PySem.W.Frag} {H H' : Hp} (k : ∀ b xs, H b = some (.tup xs) → H' b = some (.tup xs)) : ∀ {ds : List Dt} {vs : List V}, kableL ds → AtL K H ds vs → AtL K H' ds vs
  | [], vs, _, h => by unfold AtL at h ⊢; exact h
  | d :: ds, vs, hk, h => by
    simp only [kableL] at hk
    unfold AtL at h ⊢
    obtain ⟨v, r, e, hd, hl⟩ := h
    exact ⟨v, r, e, ky_at k hk.1 hd, kyL_at k hk.2 hl⟩
end
theorem Ky.keep {K : PySem.W.Frag} {H H' : Hp} (k : ∀ b xs, H b = some (.tup xs) → H' b = some (.tup xs)) {d : Dt} {b : Addr} (h : Ky K H d b) : Ky K H' d b := ⟨ky_at k h.ok h.cells, h.ok, h.low⟩
/-- the dict stays where it and the tuples stay -/
theorem DkN.keep {P : Program} {w : World} {K : PySem.W.Frag} {H H' : Hp} {a : Addr} {kvs : List (Dt × Int)} (k : ∀ b xs, H b = some (.tup xs) → H' b = some (.tup xs)) (ka : ∀ u, H a = some u → H' a = some u) (h : DkN P w K H a kvs) : DkN P w K H' a kvs := by
  obtain ⟨⟨xs, e, p⟩, h2, h3, h4⟩ := h
  exact ⟨⟨xs, ka _ e, ent_keep (fun _ _ => Ky.keep k) p⟩, h2, h3, h4⟩
section
variable {X : Cx} {pins : List (Addr × Obj)} {σ : L2.St} {H : Hp} {s : Shared} {a : Addr} {kvs : List (Dt × Int)}
theorem DkN.at (I : Inv X pins σ H s) (h : DkN X.prog X.w X.K H a kvs) : ∃ xs, s.heap.DictOfH (nestedKind X.prog X.w) a xs ∧ H a = some (dkN X.prog X.w a xs) ∧ Paired (Ent X.K H) kvs xs ∧ xs.length ≤ sizeLine := by
  obtain ⟨⟨xs, e, p⟩, h2, h3, h4⟩ := h
  obtain ⟨o, es, ep, e1, e2, e3, e4⟩ := (I.hok a _ e : ObjOk X.prog X.w H s.heap a (dkN X.prog X.w a xs)).1
  refine ⟨xs, ⟨o, es, ep, e1, e2, e3, e4, fun x hx => ?_, ent_nodup p h2⟩, e, p, ?_⟩
  · obtain ⟨q, _, hR⟩ := paired_mem p x hx
    obtain ⟨r1, r2, _⟩ := hR
    refine ⟨?_, ?_⟩
    · rw [r1]
      exact nk_is I r2.ok r2.cells rfl
    · rw [r1, nk_depth r2.ok]
      exact r2.low
  · rw [← paired_len p]
    exact sz6 h3
theorem ky_is (I : Inv X pins σ H s) {d : Dt} {b : Addr} (k : Ky X.K H d b) : (nestedKind X.prog X.w).is s.heap (nkD d) b := ⟨nk_is I k.ok k.cells rfl, by rw [nk_depth k.ok]; exact k.low⟩
/-- {} -/
def tDNewN (P : Program) (w : World) : TE := fun _ H Q => ∀ p, H p = none → (p == sysModules) = false → Q (.ref p) (upd H p (dkN P w p []))
theorem pe_dnewN {pos : Pos} : PE X (.Dict [] [] pos) (tDNewN X.prog X.w) := ⟨fun pins s σ H Q I h =>
  wpAny_Dict_empty ⟨.ref s.heap.objs.size, _, I.laid (a := s.heap.objs.size) (o := dkN X.prog X.w s.heap.objs.size []) (t' := s.toks) (fun _ _ q => Heap.get?_push_of_some _ q) (Nat.le_refl _) (dkN_ok ⟨_, #[], 0, Heap.get?_push_size _ rfl, ⟨rfl, rfl, rfl⟩, rfl, rfl⟩), rfl,
    h _ (I.hok.fresh (Nat.le_refl _)) (beq_eq_false_iff_ne.mpr (Ne.symm (Nat.ne_of_lt I.big)))⟩⟩
theorem DkN.new {P : Program} {w : World} {K : PySem.W.Frag} {H : Hp} {p : Addr} (hp : (p == sysModules) = false) : DkN P w K (upd H p (dkN P w p [])) p [] := ⟨⟨[], upd_same, .nil⟩, List.nodup_nil, Nat.zero_le _, hp⟩
/-- d.setdefault(key, n) -/
def tSetdN (P : Program) (w : World) (K : PySem.W.Frag) (td ty tx : TE) : TE := fun σ H Q => td σ H fun x H1 => ∃ a kvs0, x = .ref a ∧ DkN P w K H1 a kvs0 ∧ ty σ H1 fun y H2 => tx σ H2 fun z H3 =>
  ∃ kvs d b n, DkN P w K H3 a kvs ∧ y = .ref b ∧ Ky K H3 d b ∧ z = .int n ∧ kvs.length < 100000 ∧ (∀ m, valI kvs d = some m → Q (.int m) H3) ∧ (valI kvs d = none → ∀ H4, DkN P w K H4 a (kvs ++ [(d, n)]) → (∀ c, c ≠ a → H4 c = H3 c) → Q (.int n) H4)
theorem pe_setdN {o e f : Expr} {td ty tx : TE} {apos cpos : Pos} (hu : X.A.units + 64 < cLine) (ho : PE X o td) (he : PE X e ty) (hf : PE X f tx) (m : M2 X o "setdefault" apos e f cpos) : PE X (.Call (.Attribute o "setdefault" apos) [e, f] [] cpos) (tSetdN X.prog X.w X.K td ty tx) := by
  refine ⟨fun pins s σ H Q I h => ?_⟩
  refine wpAny_Call_method m.base m.few m.line PySem.F.plainAttrs_dict PySem.F.slot_dict_setdefault PySem.F.type_dict_setdefault (thn (ho.run pins s σ H _ I h) ?_)
  rintro u0 s1 ⟨x, H1, I1, rx, a, kvs0, rfl, hd0, q1⟩
  obtain rfl : u0 = Value.ref a := rx
  obtain ⟨xs0, dd0, _, _, _⟩ := hd0.at I1
  refine ⟨dd0.typeIs, fun b eb => ?_, ?_⟩
  · cases eb
    obtain ⟨ob, _, _, g1, g2, _⟩ := dd0
    exact ⟨ob, g1, g2.2.1⟩
  rw [m.trees]
  refine Calls.callWith_builtin rfl (Calls.evalArgs_plain (Calls.spliced_cons (thn (he.run pins s1 σ H1 _ I1 q1) ?_)))
  rintro iv s2 ⟨y, H2, I2, ry, q2⟩
  refine Calls.spliced_cons (thn (hf.run pins s2 σ H2 _ I2 q2) ?_)
  rintro fv s3 ⟨z, H3, I3, rz, kvs, d, b, n, hd, rfl, hk, rfl, hl, g1, g2⟩
  refine Calls.spliced_nil ?_
  obtain rfl : iv = Value.ref b := ry
  obtain ⟨tz, rfl⟩ := (show ∃ t, fv = Value.int n t from rz)
  obtain ⟨xs, dd, hx, hp, hsz⟩ := hd.at I3
  have rm : (nestedKind X.prog X.w).room X.A.in1 := by
    show X.A.units + 1 + 8 < cLine
    omega
  refine call_setdefault_heap (hsz := hsz) rm (ky_is I3 hk) hd.nm dd (fun p hp2 => ?_) fun hn h' dd' hs => ?_
  · rcases ent_at (d := d) hp with ⟨_, e2⟩ | ⟨m, b2, t, e1, e2⟩
    · rw [e2] at hp2
      cases hp2
    · rw [e2] at hp2
      have hp2 := Option.some.inj hp2
      subst hp2
      exact ⟨.int m, H3, I3.tok _, ⟨t, rfl⟩, g1 m e1⟩
  · rcases ent_at (d := d) hp with ⟨e1, _⟩ | ⟨m, b2, t, _, e2⟩
    · rw [storedH_new hn] at dd'
      obtain ⟨ob, es, ep, f1, f2, f3, f4, _, _⟩ := dd'
      have hnew : ∀ c, c ≠ a → upd H3 a (dkN X.prog X.w a (xs ++ [(nkD d, b, .int n tz)])) c = H3 c := fun c hc => upd_ne hc
      have tupk : ∀ c ys, H3 c = some (.tup ys) → upd H3 a (dkN X.prog X.w a (xs ++ [(nkD d, b, .int n tz)])) c = some (.tup ys) := fun c ys e => by
        rw [upd_ne (fun z => by rw [z, hx] at e; cases e)]
        exact e
      refine ⟨.int n, upd H3 a (dkN X.prog X.w a (xs ++ [(nkD d, b, .int n tz)])), I3.write (e := a) (by rw [hx]; exact trivial) (.inl rfl) (fun c ob2 hc e => (hs.2 c hc).trans e) ⟨ob, f1⟩ (dkN_ok ⟨ob, es, ep, f1, f2, f3, f4⟩), ⟨_, rfl⟩, ?_⟩
      refine g2 e1 _ ⟨⟨_, upd_same, paired_snoc (ent_keep (fun _ _ => Ky.keep tupk) hp) ⟨rfl, hk.keep tupk, tz, rfl⟩⟩, ?_, ?_, hd.nm⟩ hnew
      · rw [List.map_append]
        refine List.nodup_append.mpr ⟨hd.nd, by simp, fun u hu v hv => ?_⟩
        rw [List.map_singleton, List.mem_singleton] at hv
        subst hv
        intro euv
        subst euv
        obtain ⟨q, hq, eq⟩ := List.mem_map.mp hu
        unfold valI at e1
        have := List.find?_eq_none.mp (Option.map_eq_none_iff.mp e1) q hq
        rw [eq] at this
        simp at this
      · rw [List.length_append]
        show kvs.length + 1 ≤ _
        omega
    · rw [e2] at hn
      cases hn
theorem call_lenN : CallR X (.builtin "len") (fun xs H Q => ∃ (a : Addr) (kvs : List (Dt × Int)), xs = [.ref a] ∧ DkN X.prog X.w X.K H a kvs ∧ Q (.int ((kvs.length : Nat) : Int)) H) := by
  intro pins s σ H xs us Q I r h
  obtain ⟨a, kvs, rfl, hd, q⟩ := h
  cases r with
  | cons rx rr =>
    cases rr
    cases rx
    obtain ⟨ys, dd, _, hp, hsz⟩ := hd.at I
    have hm : s.heap.DictKeyed (nestedKind X.prog X.w) a (pairsH ys) := ⟨ys, dd, rfl⟩
    have hl : (pairsH ys).length = kvs.length := by rw [pairsH_length, paired_len hp]
    have hs := hd.sz
    have hn63 := line63
    refine PyProof.Rows.call_len_slot (n := (((pairsH ys).length : Nat) : Int)) hm.typeIs PySem.F.slot_dict_len (fun Q2 hq => len_keyed hd.nm hm hq) (by omega) (by rw [hl]; have : kvs.length ≤ sizeLine := sz6 hs; omega) ?_
    rw [hl]
    exact ⟨.int ((kvs.length : Nat) : Int), H, I.tok _, ⟨_, rfl⟩, q⟩
/-- d[key] -/
def tDGetN (P : Program) (w : World) (K : PySem.W.Frag) (td ty : TE) : TE := fun σ H Q => td σ H fun x H1 => ty σ H1 fun y H2 => ∃ a kvs d b n, x = .ref a ∧ DkN P w K H2 a kvs ∧ y = .ref b ∧ Ky K H2 d b ∧ valI kvs d = some n ∧ Q (.int n) H2
theorem pe_dgetN {o i : Expr} {td ty : TE} {pos : Pos} (hu : X.A.units + 64 < cLine) (ho : PE X o td) (hi : PE X i ty) (hs : NoSl i) : PE X (.Subscript o i pos) (tDGetN X.prog X.w X.K td ty) := by
  refine ⟨fun pins s σ H Q I h => ?_⟩
  refine subD_of PySem.F.slot_dict_getitem.lookup hs (thn (ho.run pins s σ H _ I h) ?_)
  rintro u0 s1 ⟨x, H1, I1, rx, q1⟩
  refine thn (hi.run pins s1 σ H1 _ I1 q1) ?_
  rintro iv s2 ⟨y, H2, I2, ry, a, kvs, d, b, n, rfl, hd, rfl, hk, hv, q⟩
  obtain rfl : u0 = Value.ref a := rx
  obtain rfl : iv = Value.ref b := ry
  obtain ⟨xs, dd, _, hp, _⟩ := hd.at I2
  have rm : (nestedKind X.prog X.w).room X.A.in1 := by
    show X.A.units + 1 + 8 < cLine
    omega
  refine ⟨dd.typeIs, ?_⟩
  rcases ent_at (d := d) hp with ⟨e1, _⟩ | ⟨m, b2, t, e1, e2⟩
  · rw [hv] at e1
    cases e1
  · rw [hv] at e1
    have e1 := Option.some.inj e1
    subst e1
    exact wpAny_getItem_heap rm (ky_is I2 hk) dd e2 ⟨.int n, H2, I2.tok _, ⟨t, rfl⟩, q⟩
end
end OS

/-! The flat keys of trees; numbers of keys; list.extend with a tuple; len(set(ints)). -/
namespace OS
open PySem PySem.Spec PyProof.Rows L2
mutual
def szD : Dt → Nat
  | .tup xs => szDL xs + 1
  | .non => 1
  | .bl _ => 1
  | .int _ => 1
  | .str _ => 1
  | .lst _ => 1
def szDL : List Dt → Nat
  | [] => 0
  | d :: r => szD d + szDL r
end
theorem szD_pos : ∀ d : Dt, 1 ≤ szD d
  | .tup xs => by simp only [szD]; omega
  | .non => by simp only [szD]; omega
  | .bl _ => by simp only [szD]; omega
  | .int _ => by simp only [szD]; omega
  | .str _ => by simp only [szD]; omega
  | .lst _ => by simp only [szD]; omega
theorem szDL_app : ∀ a b : List Dt, szDL (a ++ b) = szDL a + szDL b
  | [], b => by show szDL b = 0 + szDL b; omega
  | x :: r, b => by
    show szD x + szDL (r ++ b) = szD x + szDL r + szDL b
    rw [szDL_app r b]
    omega
theorem szDL_rev : ∀ a : List Dt, szDL a.reverse = szDL a
  | [] => rfl
  | x :: r => by
    rw [List.reverse_cons, szDL_app, szDL_rev r]
    show szDL r + (szD x + 0) = szD x + szDL r
    omega
theorem szDL_len : ∀ a : List Dt, a.length ≤ szDL a
  | [] => Nat.le_refl _
  | x :: r => by
    have := szDL_len r
    have := szD_pos x
    show r.length + 1 ≤ szD x + szDL r
    omega
/-- the parts of what waits, the next one first -/
def flatF : Nat → List Dt → List Dt
  | 0, _ => []
  | _ + 1, [] => []
  | n + 1, .tup xs :: r => .tup [.int (xs.length : Nat)] :: flatF n (xs.reverse ++ r)
  | n + 1, .non :: r => .non :: flatF n r
  | n + 1, .bl b :: r => .bl b :: flatF n r
  | n + 1, .int i :: r => .int i :: flatF n r
  | n + 1, .str x :: r => .str x :: flatF n r
  | n + 1, .lst xs :: r => .lst xs :: flatF n r
def isTup : Dt → Bool
  | .tup _ => true
  | _ => false
theorem flat_leaf {n : Nat} {d : Dt} {r : List Dt} (h : isTup d = false) : flatF (n + 1) (d :: r) = d :: flatF n r := by
  cases d with
  | tup xs => cases h
  | _ => rfl
theorem flat_nil (n : Nat) : flatF n [] = [] := by cases n <;> rfl
theorem flat_inj : ∀ (n m : Nat) (a b : List Dt), szDL a ≤ n → szDL b ≤ m → flatF n a = flatF m b → a = b
  | 0, m, a, b, h1, h2, e => by
    have l1 := szDL_len a
    have e1 : a = [] := List.eq_nil_of_length_eq_zero (by omega)
    subst e1
    cases b with
    | nil => rfl
    | cons y q =>
      have p := szD_pos y
      have h2 : szD y + szDL q ≤ m := h2
      obtain ⟨m', rfl⟩ : ∃ k, m = k + 1 := ⟨m - 1, by omega⟩
      rw [flat_nil] at e
      cases hy : isTup y with
      | true =>
        cases y with
        | tup ys => exact absurd e (by rw [show flatF (m' + 1) (.tup ys :: q) = .tup [.int (ys.length : Nat)] :: flatF m' (ys.reverse ++ q) from rfl]; simp)
        | _ => cases hy
      | false => rw [flat_leaf hy] at e; cases e
  | n + 1, m, a, b, h1, h2, e => by
    cases a with
    | nil =>
      rw [flat_nil] at e
      cases b with
      | nil => rfl
      | cons y q =>
        have p := szD_pos y
        have h2 : szD y + szDL q ≤ m := h2
        obtain ⟨m', rfl⟩ : ∃ k, m = k + 1 := ⟨m - 1, by omega⟩
        cases hy : isTup y with
        | true =>
          cases y with
          | tup ys => exact absurd e (by rw [show flatF (m' + 1) (.tup ys :: q) = .tup [.int (ys.length : Nat)] :: flatF m' (ys.reverse ++ q) from rfl]; simp)
          | _ => cases hy
        | false => rw [flat_leaf hy] at e; cases e
    | cons x r =>
      have h1 : szD x + szDL r ≤ n + 1 := h1
      have px := szD_pos x
      cases b with
      | nil =>
        rw [flat_nil] at e
        cases hx : isTup x with
        | true =>
          cases x with
          | tup xs => exact absurd e (by rw [show flatF (n + 1) (.tup xs :: r) = .tup [.int (xs.length : Nat)] :: flatF n (xs.reverse ++ r) from rfl]; simp)
          | _ => cases hx
        | false => rw [flat_leaf hx] at e; cases e
      | cons y q =>
        have p := szD_pos y
        have h2 : szD y + szDL q ≤ m := h2
        obtain ⟨m', rfl⟩ : ∃ k, m = k + 1 := ⟨m - 1, by omega⟩
        cases hx : isTup x with
        | true =>
          cases x with
          | tup xs =>
            have e1 : flatF (n + 1) (.tup xs :: r) = .tup [.int (xs.length : Nat)] :: flatF n (xs.reverse ++ r) := rfl
            rw [e1] at e
            cases hy : isTup y with
            | true =>
              cases y with
              | tup ys =>
                have e2 : flatF (m' + 1) (.tup ys :: q) = .tup [.int (ys.length : Nat)] :: flatF m' (ys.reverse ++ q) := rfl
                rw [e2] at e
                injection e with f1 f2
                injection f1 with f1
                injection f1 with f1
                injection f1 with f1
                have f1 : xs.length = ys.length := by omega
                have s1 : szD (.tup xs) = szDL xs + 1 := by simp only [szD]
                have s2 : szD (.tup ys) = szDL ys + 1 := by simp only [szD]
                have ih := flat_inj n m' (xs.reverse ++ r) (ys.reverse ++ q) (by rw [szDL_app, szDL_rev]; omega) (by rw [szDL_app, szDL_rev]; omega) f2
                have := List.append_inj ih (by simpa using f1)
                rw [List.reverse_inj.mp this.1, this.2]
              | _ => cases hy
            | false =>
              rw [flat_leaf hy] at e
              injection e with f1 f2
              rw [← f1] at hy
              cases hy
          | _ => cases hx
        | false =>
          rw [flat_leaf hx] at e
          cases hy : isTup y with
          | true =>
            cases y with
            | tup ys =>
              have e2 : flatF (m' + 1) (.tup ys :: q) = .tup [.int (ys.length : Nat)] :: flatF m' (ys.reverse ++ q) := rfl
              rw [e2] at e
              injection e with f1 f2
              rw [f1] at hx
              cases hx
            | _ => cases hy
          | false =>
            rw [flat_leaf hy] at e
            injection e with f1 f2
            rw [f1, flat_inj n m' r q (by omega) (by omega) f2]
/-- the key of a tree -/
def keyD (d : Dt) : Dt := .tup (flatF (szD d) [d])
theorem keyD_inj {a b : Dt} (h : keyD a = keyD b) : a = b := by
  injection h with h
  have := flat_inj _ _ [a] [b] (by show szD a + 0 ≤ szD a; omega) (by show szD b + 0 ≤ szD b; omega) h
  injection this
/-! ### numbers of keys -/
section
variable {α : Type} [DecidableEq α]
/-- the keys in the order in which they are met first -/
def firsts : List α → List α → List α
  | acc, [] => acc
  | acc, x :: r => firsts (if x ∈ acc then acc else acc ++ [x]) r
def numb (ks : List α) : List Nat := ks.map fun k => (firsts [] ks).idxOf k
theorem firsts_sub : ∀ (ks acc : List α) (x : α), x ∈ acc → x ∈ firsts acc ks
  | [], acc, x, h => h
  | k :: r, acc, x, h => by
    unfold firsts
    refine firsts_sub r _ x ?_
    split
    · exact h
    · exact List.mem_append_left _ h
theorem firsts_mem : ∀ (ks acc : List α) (x : α), x ∈ ks → x ∈ firsts acc ks
  | k :: r, acc, x, h => by
    unfold firsts
    rcases List.mem_cons.mp h with e | h
    · subst e
      refine firsts_sub r _ x ?_
      split
      · assumption
      · exact List.mem_append_right _ (List.mem_singleton_self _)
    · exact firsts_mem r _ x h
theorem firsts_len : ∀ (ks acc : List α), (firsts acc ks).length ≤ acc.length + ks.length
  | [], acc => Nat.le_refl _
  | k :: r, acc => by
    unfold firsts
    have := firsts_len r (if k ∈ acc then acc else acc ++ [k])
    rw [List.length_cons]
    split at this
    · rename_i c
      rw [if_pos c]
      omega
    · rename_i c
      rw [if_neg c]
      rw [List.length_append, List.length_singleton] at this
      omega
theorem idx_inj : ∀ {l : List α} {x y : α}, x ∈ l → l.idxOf x = l.idxOf y → x = y
  | [], _, _, h, _ => by cases h
  | a :: l, x, y, h, e => by
    by_cases c1 : a = x
    · by_cases c2 : a = y
      · exact c1.symm.trans c2
      · rw [List.idxOf_cons, List.idxOf_cons, beq_iff_eq.mpr c1, beq_eq_false_iff_ne.mpr c2] at e
        simp at e
    · by_cases c2 : a = y
      · rw [List.idxOf_cons, List.idxOf_cons, beq_iff_eq.mpr c2, beq_eq_false_iff_ne.mpr c1] at e
        simp at e
      · rw [List.idxOf_cons, List.idxOf_cons, beq_eq_false_iff_ne.mpr c1, beq_eq_false_iff_ne.mpr c2] at e
        simp only [Bool.cond_false] at e
        rcases List.mem_cons.mp h with q | q
        · exact absurd q.symm c1
        · exact idx_inj q (by omega)
theorem numb_len (ks : List α) : (numb ks).length = ks.length := by unfold numb; rw [List.length_map]
theorem numb_eq (ks : List α) {i j : Nat} {x y : α} (hi : ks[i]? = some x) (hj : ks[j]? = some y) : ((numb ks)[i]? = (numb ks)[j]?) ↔ x = y := by
  unfold numb
  rw [List.getElem?_map, List.getElem?_map, hi, hj]
  constructor
  · intro e
    exact idx_inj (firsts_mem ks [] x (List.mem_iff_getElem?.mpr ⟨i, hi⟩)) (Option.some.inj e)
  · rintro rfl
    rfl
theorem numb_lt (ks : List α) {i n : Nat} (h : (numb ks)[i]? = some n) : n < ks.length := by
  unfold numb at h
  rw [List.getElem?_map] at h
  cases hx : ks[i]? with
  | none => rw [hx] at h; cases h
  | some x =>
    rw [hx] at h
    have h := Option.some.inj h
    subst h
    have hm := firsts_mem ks [] x (List.mem_iff_getElem?.mpr ⟨i, hx⟩)
    have h1 := List.idxOf_lt_length_of_mem hm
    have h2 := firsts_len ks []
    rw [List.length_nil, Nat.zero_add] at h2
    exact Nat.lt_of_lt_of_le h1 h2
end
section
open PySem.AutoSeq1 in
theorem meets_extT (l : Addr) (items : Array Value) (n : Nat) (b : Addr) (items2 : Array Value) (n2 : Nat) (od : Option Addr) (sl : Array (Option Value)) (hs0 : ¬(!items.isEmpty && Builtin.List.listTooLong (items.size + items2.size)) = true) (hs1 : items.size ≤ sizeLine) (hs2 : items.size + items2.size ≤ sizeLine + 1) :
    Meets (Builtin.«list.extend» ⟨[.ref l, .ref b], []⟩) (fun _ R s => s.heap.get? l = some { cls := .type "list", data := .seq items n } ∧ s.heap.get? b = some { cls := .type "tuple", dict := od, data := .seq items2 n2, slots := sl } ∧ R (.ok (.ret Value.none)) { s with heap := s.heap.update l (Obj.mapSeq fun x => x ++ items2), toks := s.toks }) :=
  .of_wp fun prog w A R s h => by
    obtain ⟨hp, g, d, tk, os⟩ := s
    obtain ⟨hl, hb, h⟩ := h
    have f1 := AutoSeq1.idx_int
    have f2 := AutoSeq1.sub_tuple_tuple
    have f3 := AutoSeq1.sub_list_list
    have f4 := AutoSeq1.sub_tuple_list
    have f5 := AutoSeq1.sub_list_tuple
    have hz' : (items ++ items2).size ≤ sizeLine + 1 := by rw [Array.size_append]; exact hs2
    wp_walk using (wpAny_updateSeq hl rfl (hz := hs1) (_hz' := hz')), wpAny_loadPart' hl, wpAny_loadPart' hb
    exact ⟨_, rfl, h⟩
end
section
variable {X : Cx}
/-- list.extend with a tuple -/
def rExtT : V → List V → Hp → VK → Prop := fun x vs H Q => ∃ l b xs zs, x = .ref l ∧ vs = [.ref b] ∧ H l = some (.lst xs) ∧ H b = some (.tup zs) ∧ xs.length + zs.length ≤ sizeLine ∧ Q .non (upd H l (.lst (xs ++ zs)))
theorem mt_extT : MtM X "list.extend" rExtT := by
  intro pins s σ H x vs v us Q I rx rv h
  obtain ⟨l, b, xs, zs, rfl, rfl, hH, hB, hz, q⟩ := h
  cases rx
  obtain ⟨u, rfl, ru⟩ := rv.one
  cases ru
  obtain ⟨z, its, n, r, hl, e⟩ := I.lstM hH
  obtain ⟨z2, its2, r2, o, g1, g2, n2, g3⟩ := (I.hok b _ hB : ObjOk X.prog X.w H s.heap b (.tup zs))
  have hl2 := r2.length
  obtain ⟨oc, od, oda, os⟩ := o
  cases g2
  cases g3
  have hsz : its.toArray.size + its2.toArray.size ≤ sizeLine := by rw [List.size_toArray, List.size_toArray]; omega
  have hlong : ¬ (!its.toArray.isEmpty && Builtin.List.listTooLong (its.toArray.size + its2.toArray.size)) = true := by
    rw [L2.notLongL hsz, Bool.and_false]
    exact Bool.false_ne_true
  refine call_meets PySem.F.slot_list_extend ⟨_, e, rfl⟩ PySem.F.entry_list_extend (PySem.F.args_list_extend_2 _ _)
    (meets_extT l its.toArray n b its2.toArray n2 _ _ hlong (by rw [List.size_toArray]; omega) (by omega)) ⟨e, g1, ?_⟩
  refine ⟨.non, _, I.lset (its' := its ++ its2) hH e (by simp) (r.append r2) ?_, rfl, q⟩
  rw [List.length_append]
  omega
/-- len(set(xs)), xs a list of ints -/
def tLenSetD (K : PySem.W.Frag) (ta : TE) : TE := fun σ H Q => ta σ H fun x H1 => ∃ (l : Addr) (ns : List Int), x = .ref l ∧ SqL K H1 l (ns.map V.int) ∧ ns.length ≤ 4000 ∧ Q (.int ((firsts [] ns).length : Nat)) H1
theorem met_firsts (ns : List Int) : ∀ acc : List Int, ns.foldl step_dedup acc = firsts acc ns := by
  induction ns with
  | nil => exact fun _ => rfl
  | cons x r ih =>
    intro acc
    rw [List.foldl_cons, ih]
    show firsts (step_dedup acc x) r = firsts (if x ∈ acc then acc else acc ++ [x]) r
    have e : step_dedup acc x = if x ∈ acc then acc else acc ++ [x] := by
      unfold step_dedup
      by_cases c : x ∈ acc
      · have a : (acc.any (· == x)) = true := List.any_eq_true.mpr ⟨x, c, beq_self_eq_true x⟩
        rw [if_pos c]
        simp only [a, if_true]
      · have a : (acc.any (· == x)) = false := by
          cases h : acc.any (· == x) with
          | false => rfl
          | true =>
            obtain ⟨y, hy, ey⟩ := List.any_eq_true.mp h
            exact absurd ((beq_iff_eq.mp ey) ▸ hy) c
        rw [if_neg c]
        simp only [a]
        rfl
    rw [e]
theorem firstMet_is (ns : List Int) : firstMet (fun i => ns.getD i 0) ns.length = firsts [] ns := by
  unfold firstMet
  rw [← met_firsts ns []]
  congr 1
  refine List.ext_getElem (by simp) fun i h1 h2 => ?_
  have hi : i < ns.length := h2
  rw [List.getElem_map, List.getElem_range, List.getD_eq_getElem?_getD, List.getElem?_eq_getElem hi]
  rfl
theorem pe_lenSetD {a : Expr} {ta : TE} {p p2 q pos : Pos} (hg : Gl X "len") (hm : X.mg "len" = none) (hg2 : Gl X "set") (hm2 : X.mg "set" = none) (ha : PE X a ta) (hc : X.calm = true := by rfl)
    (na : starEach [a] X.env = (false, eval a X.env) :: starEach [] X.env := by rfl) : PE X (.Call (.Name "len" p) [.Call (.Name "set" p2) [a] [] q] [] pos) (tLenSetD X.K ta) := by
  refine ⟨fun pins s σ H Q I h => ?_⟩
  refine Call_ (ld_blt I hg hm PySem.boot_len ?_)
  refine PyProof.Rows.callWith_builtin1 (PyProof.Rows.args_cons ?_ rfl) rfl rfl
  refine Call_ (ld_blt I hg2 hm2 PyProof.Rows.boot_set ?_)
  refine PyProof.Rows.callWith_type1 (PyProof.Rows.args_cons (thn (ha.run pins s σ H _ I h) fun v s1 ⟨x, H1, I1, r1, q1⟩ => PyProof.Rows.args_nil ?_) na) na rfl
  obtain ⟨l, ns, rfl, hq, hl, q1⟩ := q1
  cases r1
  obtain ⟨its, r, pl, hz⟩ := I1.list hq
  have hlen : its.toArray.size = ns.length := by rw [List.size_toArray, ← r.length, List.length_map]
  refine PySem.call_set_list (I1.ok.hd hc) pl.isList (by simpa using RZ.intsAre_vals r) (by rw [hlen]; unfold scanBound; omega) fun h' tk hS hk => ?_
  refine PyProof.Rows.args_nil ?_
  rw [hlen, firstMet_is] at hS
  have hf := firsts_len ns ([] : List Int)
  rw [List.length_nil] at hf
  obtain ⟨o, es, ep, t, ho, hex, hd, _, _, _, hf2, hn⟩ := hS
  have I2 : Inv X pins σ H1 { s1 with heap := h', toks := tk } := I1.kept fun b o e => hk b o (Heap.lt_size e) e
  exact call_len_set ho hex hd hf2 (by rw [hn] <;> omega) ⟨.int ((firsts [] ns).length : Nat), H1, I2.tok _, ⟨_, by rw [hn]⟩, q1⟩
end
end OS

/-! zip(a tuple, a list). -/
namespace OS
open PySem PySem.Spec PyProof.Rows L2
theorem draws_tup {prog : Program} {w : World} {A : Around} (hh : A.handled = none) (it l : Addr) (hne : l ≠ it) (items : Array Value) :
    Draws prog w A it [it, l] items.size (fun i v => items[i]? = some v) (fun i h => h.IsTupleIter it l i ∧ h.IsTuple l items) where
  live := fun _ _ st => let ⟨o, ho, _⟩ := st.1; ⟨o, ho⟩
  frame := fun _ _ _ st hk => ⟨st.1.at fun o e => hk it (by simp) o e, st.2.at fun o e => hk l (by simp) o e⟩
  item := fun i s Q E hi st hQ => RZ.nextOf_tuple_item st.1 st.2 (x := items[i]) (by simp [hi]) fun h' hit' hs' => hQ _ h' s.toks (by simp [hi]) ⟨hit', st.2.extBut hs'.extBut hne⟩ hs'
  done := fun s Q E st hE => RZ.nextOf_tuple_end hh st.1 st.2 (by simp) hE
theorem sep_of {z TI TO i1 i2 a b : Addr} (D : ZipApart z TI TO i1 i2 a b) : ZipSep2 z TI TO i1 i2 [i1, a] [i2, b] where
  TIz := D.TIz
  TOz := D.TOz
  TITO := D.TITO
  TIi1 := D.TIi1
  mem1 := by simp
  zf1 := by simp [D.i1z.symm, D.l1z.symm]
  Tf1 := by simp [D.TOi1, D.l1TO.symm]
  TIi2 := D.TIi2
  mem2 := by simp
  zf2 := by simp [D.i2z.symm, D.l2z.symm]
  Tf2 := by simp [D.TOi2, D.l2TO.symm]
  sep1_2 := by simp [D.i12, D.l2i1.symm]
  sep2_1 := by simp [D.i12.symm, D.l1i2.symm]
/-- the tuple at a and the list at b, item by item, in new pairs -/
def ItzM (K : PySem.W.Frag) (a b : Addr) : It :=
  ⟨fun i H => ∃ (xs ys : List V) (x y : V), SqT K H a xs ∧ SqL K H b ys ∧ xs[i]? = some x ∧ ys[i]? = some y,
    fun i H v H' => ∃ T x y, v = .ref T ∧ H T = none ∧ H' = upd H T (.tup [x, y]) ∧ (∀ xs, SqT K H a xs → xs[i]? = some x) ∧ ∀ ys, SqL K H b ys → ys[i]? = some y,
    fun i H => ∃ xs ys : List V, SqT K H a xs ∧ SqL K H b ys ∧ i ≤ xs.length ∧ i ≤ ys.length ∧ (i = xs.length ∨ i = ys.length)⟩
theorem turn_zipM {P : Program} {w : World} {K : PySem.W.Frag} {elts : List Expr} {kk : Nat} {tpos : Pos} {a b z TI TO i1 i2 : Addr} (D : ZipApart z TI TO i1 i2 a b) :
    Turn P w K (.Tuple elts kk tpos) (ItzM K a b) [z, TI, TO, i1, i2] z (fun i h => IsZip h z TI TO .none ∧ IsPair h TI (.ref i1) (.ref i2) ∧ (∃ x y, IsPair h TO x y) ∧ h.IsTupleIter i1 a i ∧ h.IsListIter i2 b i) where
  mem := by simp
  obj := fun i h st c hc => by
    obtain ⟨hz, hTI, ⟨x, y, hTO⟩, ⟨o1, e1, _, d1⟩, ⟨o2, e2, _, d2⟩⟩ := st
    have e' : c = z ∨ c = TI ∨ c = TO ∨ c = i1 ∨ c = i2 := by simpa using hc
    rcases e' with q | q | q | q | q
    · rw [q]; exact ⟨_, hz, fun v q => nomatch q⟩
    · rw [q]; exact ⟨_, hTI, fun v q => nomatch q⟩
    · rw [q]; exact ⟨_, hTO, fun v q => nomatch q⟩
    · exact ⟨o1, q ▸ e1, fun v q => by rw [d1] at q; cases q⟩
    · exact ⟨o2, q ▸ e2, fun v q => by rw [d2] at q; cases q⟩
  keep := fun i h h' st k => by
    obtain ⟨hz, hTI, ⟨x, y, hTO⟩, h1, h2⟩ := st
    exact ⟨k z (by simp) _ hz, k TI (by simp) _ hTI, ⟨x, y, k TO (by simp) _ hTO⟩, h1.at fun o q => k i1 (by simp) o q, h2.at fun o q => k i2 (by simp) o q⟩
  item := by
    intro X hP hw hK hc i pins s σ H E I hf st hg
    subst hP hw hK
    obtain ⟨hz, hTI, ⟨x0, y0, hTO⟩, h1, h2⟩ := st
    obtain ⟨xs, ys, x, y, hqx, hqy, hx, hy⟩ := hg
    obtain ⟨its, rv, p, _⟩ := I.tuple hqx
    obtain ⟨its2, rv2, p2, _⟩ := I.list hqy
    obtain ⟨u, hu, ru⟩ := rv.get hx
    obtain ⟨u2, hu2, ru2⟩ := rv2.get hy
    have l1 : i < its.length := (List.getElem?_eq_some_iff.mp hu).1
    have l2 : i < its2.length := (List.getElem?_eq_some_iff.mp hu2).1
    have hzl : z < s.heap.objs.size := Heap.lt_size hz
    have hh : X.A.in1.handled = none := I.ok.hd hc
    refine wpAny_pyNext_zipD2_item (sep_of D) (draws_tup hh i1 a D.l1i1 its.toArray) (Draws.list hh i2 b D.l2i2 its2.toArray) hz hTI hTO ⟨h1, p⟩ ⟨h2, p2.isList⟩ (by simpa using l1) (by simpa using l2) fun v1 v2 h' tk q1 q2 z' TO' st1 st2 hT hsz hk => ?_
    have q1 : its[i]? = some v1 := by simpa using q1
    have q2 : its2[i]? = some v2 := by simpa using q2
    rw [hu] at q1
    rw [hu2] at q2
    have q1 := Option.some.inj q1
    have q2 := Option.some.inj q2
    subst q1 q2
    refine ⟨_, rfl, wpAny_letOwnedTupleGo_zip (s := { s with heap := h', toks := tk }) z' fun h'' z'' sb => ?_⟩
    have hT2 : h''.get? s.heap.objs.size = some { cls := .type "tuple", data := .seq #[u, u2] } := (sb.2 _ (Nat.ne_of_gt hzl)).trans hT
    have new : ObjOk X.prog X.w (upd H s.heap.objs.size (.tup [x, y])) h'' s.heap.objs.size (.tup [x, y]) :=
      ⟨by show 2 ≤ sizeLine; decide, [u, u2], .cons ru (.cons ru2 .nil), ⟨_, hT2, rfl, _, rfl⟩⟩
    have off : ∀ {c : Addr}, c ∉ [z, TI, TO, i1, i2] → c ≠ z ∧ c ≠ TO ∧ c ≠ i1 ∧ c ≠ i2 := fun hb => ⟨fun q => hb (by simp [q]), fun q => hb (by simp [q]), fun q => hb (by simp [q]), fun q => hb (by simp [q])⟩
    have I1 : Inv X pins σ (upd H s.heap.objs.size (.tup [x, y])) { s with heap := h'', toks := tk } :=
      I.turnedNew (t' := tk) (ch := [z, TI, TO, i1, i2]) (fun c o hb q => let ⟨a1, a2, a3, a4⟩ := off hb; (sb.2 c a1).trans (hk c o a1 a2 a3 a4 q)) hf (Nat.le_refl _) new
    refine ⟨.ref s.heap.objs.size, _, I1, rfl, ⟨_, x, y, rfl, I.hok.fresh (Nat.le_refl _), rfl, fun l hl => by rw [I.tuple_inj hl hqx]; exact hx, fun l hl => by rw [I.list_inj hl hqy]; exact hy⟩, ⟨z'', ?_, ⟨u, u2, ?_⟩, ?_, ?_⟩, fun c hcm => ?_⟩
    · exact (sb.2 _ D.TIz).trans (hk _ _ D.TIz D.TITO D.TIi1 D.TIi2 hTI)
    · exact (sb.2 _ D.TOz).trans TO'
    · exact st1.1.at fun o q => (sb.2 _ D.i1z).trans q
    · exact st2.1.at fun o q => (sb.2 _ D.i2z).trans q
    · have hlt : c < s.heap.objs.size := by
        have e' : c = z ∨ c = TI ∨ c = TO ∨ c = i1 ∨ c = i2 := by simpa using hcm
        rcases e' with q | q | q | q | q
        · exact q ▸ hzl
        · exact q ▸ Heap.lt_size hTI
        · exact q ▸ Heap.lt_size hTO
        · obtain ⟨_, e1, _⟩ := h1
          exact q ▸ Heap.lt_size e1
        · obtain ⟨_, e2, _⟩ := h2
          exact q ▸ Heap.lt_size e2
      rw [upd_ne (Nat.ne_of_lt hlt)]
      exact (hf c hcm).1
  done := by
    intro X hP hw hK hc i pins s σ H E I hf st hg
    subst hP hw hK
    obtain ⟨hz, hTI, ⟨x0, y0, hTO⟩, h1, h2⟩ := st
    obtain ⟨xs, ys, hqx, hqy, n1, n2, hend⟩ := hg
    obtain ⟨its, rv, p, _⟩ := I.tuple hqx
    obtain ⟨its2, rv2, p2, _⟩ := I.list hqy
    have l1 := rv.length
    have l2 := rv2.length
    have hh : X.A.in1.handled = none := I.ok.hd hc
    have off : ∀ {c : Addr}, c ∉ [z, TI, TO, i1, i2] → c ≠ z ∧ c ≠ TO ∧ c ≠ i1 ∧ c ≠ i2 := fun hb => ⟨fun q => hb (by simp [q]), fun q => hb (by simp [q]), fun q => hb (by simp [q]), fun q => hb (by simp [q])⟩
    refine wpAny_pyNext_zipD2_end (sep_of D) (draws_tup hh i1 a D.l1i1 its.toArray) (Draws.list hh i2 b D.l2i2 its2.toArray) hz hTI hTO ⟨h1, p⟩ ⟨h2, p2.isList⟩ (by rw [List.size_toArray]; omega) (by rw [List.size_toArray]; omega) (by rw [List.size_toArray, List.size_toArray]; omega) fun h' tk hk => ⟨rfl, ?_⟩
    exact I.turnedL (t' := tk) (ch := [z, TI, TO, i1, i2]) (fun c o hb q => let ⟨a1, a2, a3, a4⟩ := off hb; hk c o a1 a2 a3 a4 q) hf
  self := fun A i s Q E st h => wpAny_pyIter_zip st.1 h
theorem meets_zipM (l1 l2 : Addr) (xs ys : Array Value) :
    Meets (Builtin.«zip.__new__» ⟨[.type "zip", .ref l1, .ref l2], []⟩) (fun _ R s => s.heap.IsTuple l1 xs ∧ s.heap.IsList l2 ys ∧
      ∀ h1 h2 h3 h4 h5, h1 = s.heap.push { cls := .type "tuple_iterator", data := .fields #[.ref l1, .int 0 0] } → h2 = h1.push { cls := .type "list_iterator", data := .fields #[.ref l2, .int 0 0] } →
        h3 = h2.push { cls := .type "tuple", data := .seq #[.ref s.heap.objs.size, .ref h1.objs.size] } → h4 = h3.push { cls := .type "tuple", data := .seq #[.none, .none] } →
        h5 = h4.push { cls := .type "zip", data := .fields #[.none, .bool false, .bool false, .ref h2.objs.size, .ref h3.objs.size] } → R (.ok (.ret (.ref h4.objs.size))) { s with heap := h5 }) :=
  .of_wp fun prog w A R s h => by
    obtain ⟨hp, g, d, tk, os⟩ := s
    obtain ⟨hl1, hl2, h⟩ := h
    have hsub := sub_zip
    have hL1 : Heap.IsTuple (Shared.heap ⟨hp, g, d, tk, os⟩) l1 xs := hl1
    have hL2 : Heap.IsList (Shared.heap ⟨hp.push { cls := .type "tuple_iterator", data := .fields #[.ref l1, .int 0 0] }, g, d, tk, os⟩) l2 ys := Heap.IsList.push hl2 _
    wp_walk using wpAny_pyIter_tuple hL1, wpAny_pyIter_list hL2
    exact ⟨_, rfl, h _ _ _ _ _ rfl rfl rfl rfl rfl⟩
theorem call_zipM {prog : Program} {w : World} {A : Around} {E : Value → Shared → Prop} {s : Shared} {l1 l2 : Addr} {xs ys : Array Value} {Q : Value → Shared → Prop} (hl1 : s.heap.IsTuple l1 xs) (hl2 : s.heap.IsList l2 ys)
    (h : ∀ h', IsZip h' (s.heap.objs.size + 4) (s.heap.objs.size + 2) (s.heap.objs.size + 3) .none → IsPair h' (s.heap.objs.size + 2) (.ref s.heap.objs.size) (.ref (s.heap.objs.size + 1)) →
      IsPair h' (s.heap.objs.size + 3) .none .none → h'.IsTupleIter s.heap.objs.size l1 0 → h'.IsListIter (s.heap.objs.size + 1) l2 0 →
      (∀ c o, s.heap.get? c = some o → h'.get? c = some o) → Q (.ref (s.heap.objs.size + 4)) { s with heap := h' }) :
    wpAny (model prog w) A (call (.type "zip") [.ref l1, .ref l2]) Q E s := by
  refine callType_new PySem.F.called_zip (by decide) (PySem.F.typeCall_zip_2 _ _) (PySem.F.newCall_zip_2 _ _) (fun obj => PySem.F.args_object_init_3 obj _ _) PySem.F.entry_zip_new
    (meets_zipM l1 l2 xs ys) ⟨hl1, hl2, fun h1 h2 h3 h4 h5 e1 e2 e3 e4 e5 => ?_⟩
  have z1 : h1.objs.size = s.heap.objs.size + 1 := by rw [e1, Heap.size_push]
  have z2 : h2.objs.size = s.heap.objs.size + 2 := by rw [e2, Heap.size_push, z1]
  have z3 : h3.objs.size = s.heap.objs.size + 3 := by rw [e3, Heap.size_push, z2]
  have z4 : h4.objs.size = s.heap.objs.size + 4 := by rw [e4, Heap.size_push, z3]
  have u1 : ∀ c o, s.heap.get? c = some o → h1.get? c = some o := fun c o e => by rw [e1]; exact Heap.get?_push_of_some _ e
  have u2 : ∀ c o, h1.get? c = some o → h2.get? c = some o := fun c o e => by rw [e2]; exact Heap.get?_push_of_some _ e
  have u3 : ∀ c o, h2.get? c = some o → h3.get? c = some o := fun c o e => by rw [e3]; exact Heap.get?_push_of_some _ e
  have u4 : ∀ c o, h3.get? c = some o → h4.get? c = some o := fun c o e => by rw [e4]; exact Heap.get?_push_of_some _ e
  have u5 : ∀ c o, h4.get? c = some o → h5.get? c = some o := fun c o e => by rw [e5]; exact Heap.get?_push_of_some _ e
  have g5 : h5.get? (s.heap.objs.size + 4) = some { cls := .type "zip", data := .fields #[.none, .bool false, .bool false, .ref h2.objs.size, .ref h3.objs.size] } := by rw [← z4, e5]; exact Heap.get?_push_size _ rfl
  have g4 : h5.get? (s.heap.objs.size + 3) = some { cls := .type "tuple", data := .seq #[.none, .none] } := u5 _ _ (by rw [← z3, e4]; exact Heap.get?_push_size _ rfl)
  have g3 : h5.get? (s.heap.objs.size + 2) = some { cls := .type "tuple", data := .seq #[.ref s.heap.objs.size, .ref h1.objs.size] } := u5 _ _ (u4 _ _ (by rw [← z2, e3]; exact Heap.get?_push_size _ rfl))
  have g2 : h5.get? (s.heap.objs.size + 1) = some { cls := .type "list_iterator", data := .fields #[.ref l2, .int 0 0] } := u5 _ _ (u4 _ _ (u3 _ _ (by rw [← z1, e2]; exact Heap.get?_push_size _ rfl)))
  have g1 : h5.get? s.heap.objs.size = some { cls := .type "tuple_iterator", data := .fields #[.ref l1, .int 0 0] } := u5 _ _ (u4 _ _ (u3 _ _ (u2 _ _ (by rw [e1]; exact Heap.get?_push_size _ rfl))))
  show _ ∧ _
  rw [z2, z3] at g5
  rw [z1] at g3
  rw [z4]
  exact ⟨⟨_, g5, rfl⟩, h _ g5 g3 g4 ⟨_, g1, rfl, rfl⟩ ⟨_, g2, rfl, rfl⟩ fun c o x => u5 _ _ (u4 _ _ (u3 _ _ (u2 _ _ (u1 _ _ x))))⟩
def iZipM (K : PySem.W.Frag) (ta : TA) : TI := fun σ H R => ta σ H fun vs H1 => ∃ a b xs ys, vs = [.ref a, .ref b] ∧ SqT K H1 a xs ∧ SqL K H1 b ys ∧ R (ItzM K a b) H1
theorem pi_zipM {X : Cx} {e e2 : Expr} {ta : TA} {p pos tpos : Pos} {elts : List Expr} {kk : Nat} (hg : Gl X "zip") (hm : X.mg "zip" = none) (ha : PA X [e, e2] ta)
    (hs : starEach [e, e2] X.env = (false, eval e X.env) :: starEach [e2] X.env := by rfl) (hpl : (backTo pos (starEach [e2] X.env)).any (·.1) = false := by rfl) :
    PI X (.Tuple elts kk tpos) (.Call (.Name "zip" p) [e, e2] [] pos) (iZipM X.K ta) := by
  refine ⟨fun pins s σ H R I h => ?_⟩
  refine Call_ (ld_blt I hg hm PyProof.Rows.boot_zip (PyProof.Rows.callWith_type1 (thn (ha.run pos pins s σ H _ I h) fun us s1 ⟨vs, H1, I1, r1, q1⟩ => ?_) hs hpl))
  obtain ⟨a, b, xs, ys, ex, hqx, hqy, q⟩ := q1
  subst ex
  cases r1 with
  | cons r rr =>
    cases rr with
    | cons r' rr =>
      cases rr
      cases r
      cases r'
      obtain ⟨its, rv, p1, _⟩ := I1.tuple hqx
      obtain ⟨its2, rv2, p2, _⟩ := I1.list hqy
      have la : a < s1.heap.objs.size := p1.lt
      have lb : b < s1.heap.objs.size := p2.lt
      refine call_zipM p1 p2.isList fun h' hz hTI hTO h1 h2 hk => wpAny_pyIter_zip hz ?_
      have I2 : Inv X pins σ H1 { s1 with heap := h' } := I1.kept (t' := s1.toks) hk
      refine ⟨s1.heap.objs.size + 4, [s1.heap.objs.size + 4, s1.heap.objs.size + 2, s1.heap.objs.size + 3, s1.heap.objs.size, s1.heap.objs.size + 1], _, _, H1, rfl, I2, turn_zipM (PySem.W.ktu_apart s1.heap.objs.size a b la lb), ⟨hz, hTI, ⟨_, _, hTO⟩, h1, h2⟩, fun c hcm => ?_, q⟩
      have hle : s1.heap.objs.size ≤ c := by
        have e' : c = s1.heap.objs.size + 4 ∨ c = s1.heap.objs.size + 2 ∨ c = s1.heap.objs.size + 3 ∨ c = s1.heap.objs.size ∨ c = s1.heap.objs.size + 1 := by simpa using hcm
        have m : ∀ k : Nat, s1.heap.objs.size ≤ s1.heap.objs.size + k := fun k => Nat.le_add_right _ _
        rcases e' with z | z | z | z | z
        · rw [z]; exact m 4
        · rw [z]; exact m 2
        · rw [z]; exact m 3
        · rw [z]; exact m 0
        · rw [z]; exact m 1
      exact I1.fpOk hle (I1.hok.fresh hle)
/-- a comprehension over zip of a tuple and a list of one length -/
theorem lc_zipM {K : PySem.W.Frag} {a b : Addr} {xs ys : List V} {g : TG} {tt : TT} {te : TE} {vs : List Nat} {σ : L2.St} {H1 : Hp} {D : Addr} {Qd : Hp → Prop} (hl : xs.length = ys.length) (Pv : Nat → Hp → Prop) (h0 : Pv 0 (upd H1 D (.lst []))) (hq : ∀ i H, i ≤ xs.length → Pv i H → SqT K H a xs ∧ SqL K H b ys)
    (hs : ∀ (i : Nat) (x y : V) (T : Addr) (H : Hp), xs[i]? = some x → ys[i]? = some y → Pv i H → H T = none → g (.ref T) (wipe σ vs) (upd H T (.tup [x, y])) fun σ2 H2 => wipe σ2 vs = wipe σ vs ∧ tt σ2 H2 fun b H3 =>
      if b = true then te σ2 H3 fun y H4 => ∃ acc, H4 D = some (.lst acc) ∧ acc.length < sizeLine ∧ Pv (i + 1) (upd H4 D (.lst (acc ++ [y]))) else Pv (i + 1) H3) (hd : ∀ H, Pv xs.length H → Qd H) :
    ∃ W : Nat → Nat → Hp → Prop, (∃ m, W 0 m (upd H1 D (.lst []))) ∧ ∀ i m H, W i m H →
      ((ItzM K a b).stop i H ∧ Qd H) ∨ ((ItzM K a b).go i H ∧ ∃ Nx : Hp → Prop, (∀ H', Nx H' → ∃ m', m' < m ∧ W (i + 1) m' H') ∧ ∀ x H', (ItzM K a b).yld i H x H' → g x (wipe σ vs) H' fun σ2 H2 => wipe σ2 vs = wipe σ vs ∧ tt σ2 H2 fun b H3 =>
        if b = true then te σ2 H3 fun y H4 => ∃ acc, H4 D = some (.lst acc) ∧ acc.length < sizeLine ∧ Nx (upd H4 D (.lst (acc ++ [y]))) else Nx H3) := by
  refine ⟨fun i m H => m = xs.length - i ∧ i ≤ xs.length ∧ Pv i H, ⟨xs.length, by simp, Nat.zero_le _, h0⟩, ?_⟩
  rintro i m H ⟨rfl, hi, p⟩
  obtain ⟨qx, qy⟩ := hq i H hi p
  by_cases hlt : i < xs.length
  · have hx : xs[i]? = some xs[i] := List.getElem?_eq_getElem hlt
    have hy : ys[i]? = some (ys[i]'(hl ▸ hlt)) := List.getElem?_eq_getElem (hl ▸ hlt)
    refine .inr ⟨⟨xs, ys, _, _, qx, qy, hx, hy⟩, Pv (i + 1), fun H' p' => ⟨xs.length - (i + 1), by omega, rfl, hlt, p'⟩, fun v H' y => ?_⟩
    obtain ⟨T, x, z, rfl, hT, rfl, e1, e2⟩ := y
    have e1 := e1 xs qx
    have e2 := e2 ys qy
    exact hs i x z T H e1 e2 p hT
  · have e : i = xs.length := by omega
    subst e
    exact .inl ⟨⟨xs, ys, qx, qy, Nat.le_refl _, Nat.le_of_eq hl, .inl rfl⟩, hd H p⟩
end OS

/-! Texts of code: instructions, their lines, reading of lines (plain mathematics). -/
namespace OS
open PySem PySem.Spec PyProof.Rows L2
inductive Pt where
  | num (n : Nat) | nam (z : Str)
  deriving DecidableEq
def Pt.dt : Pt → Dt | .num n => .int (n : Nat) | .nam z => .str z
def Pt.v : Pt → V | .num n => .int (n : Nat) | .nam z => .str z
def natS (n : Nat) : Str := Str.ofString (toString ((n : Nat) : Int))
def Pt.str : Pt → Str | .num n => natS n | .nam z => z
inductive Ins where
  | pl (w : Str) (ps : List Pt) | wt (e : Str) (cs : List (Str × Str × Nat))
  deriving DecidableEq
def chD (c : Str × Str × Nat) : Dt := .tup [.str c.1, .str c.2.1, .int (c.2.2 : Nat)]
def chW (c : Str × Str × Nat) : List Str := [c.1, c.2.1, natS c.2.2]
def Ins.dt : Ins → Dt
  | .pl w ps => .tup (.str w :: ps.map Pt.dt)
  | .wt e cs => .tup [.str "wait", .str e, .tup (cs.map chD)]
def Ins.words : Ins → List Str
  | .pl w ps => w :: ps.map Pt.str
  | .wt e cs => "wait" :: e :: cs.flatMap chW
def Ins.line (a : Ins) : Str := Txt.join " " a.words
/-! ### numbers and names -/
def numOf (z : Str) : Option Nat :=
  if z = "" ∨ 10 < z.length ∨ run isDigit z.cps.toList 0 < z.length then none
  else if z = natS (NumText.digitsVal z.cps.toList) ∧ NumText.digitsVal z.cps.toList < 4294967296 then some (NumText.digitsVal z.cps.toList) else none
def nameOk (z : Str) : Bool := decide (0 < z.length) && decide (run isName z.cps.toList 0 = z.length)
theorem numOf_str {z : Str} {n : Nat} (h : numOf z = some n) : natS n = z := by
  unfold numOf at h
  split at h
  · cases h
  · split at h
    · rename_i c
      cases h
      exact c.1.symm
    · cases h
def readPt (s z : Str) : Option Pt :=
  if s = "number" ∨ s = "goal" then (numOf z).map .num
  else if s = "answer" then (if z = "yes" ∨ z = "no" then some (.nam z) else none)
  else if nameOk z = true then some (.nam z) else none
theorem readPt_str {s z : Str} {p : Pt} (h : readPt s z = some p) : p.str = z := by
  unfold readPt at h
  split at h
  · cases e : numOf z with
    | none => rw [e] at h; cases h
    | some n =>
      rw [e] at h
      cases h
      exact numOf_str e
  · split at h
    · split at h
      · cases h; rfl
      · cases h
    · split at h
      · cases h; rfl
      · cases h
/-! ### all there, or none -/
def allS {α : Type} : List (Option α) → Option (List α)
  | [] => some []
  | none :: _ => none
  | some a :: r => (allS r).map (a :: ·)
theorem allS_some {α : Type} : ∀ {l : List (Option α)} {r : List α}, allS l = some r → l = r.map some
  | [], r, h => by cases h; rfl
  | none :: _, r, h => by cases h
  | some a :: l, r, h => by
    unfold allS at h
    cases e : allS l with
    | none => rw [e] at h; cases h
    | some q =>
      rw [e] at h
      cases h
      rw [allS_some e]
      rfl
theorem allS_map {α : Type} : ∀ r : List α, allS (r.map some) = some r
  | [] => rfl
  | a :: r => by
    show (allS (r.map some)).map (a :: ·) = _
    rw [allS_map r]
    rfl
theorem allS_none {α : Type} : ∀ {l : List (Option α)}, allS l = none → none ∈ l
  | [], h => by cases h
  | none :: _, _ => List.mem_cons_self ..
  | some a :: l, h => by
    unfold allS at h
    cases e : allS l with
    | none => exact List.mem_cons_of_mem _ (allS_none e)
    | some q => rw [e] at h; cases h
theorem allS_mem {α : Type} {l : List (Option α)} (h : none ∈ l) : allS l = none := by
  cases e : allS l with
  | none => rfl
  | some r =>
    rw [allS_some e] at h
    obtain ⟨a, _, q⟩ := List.mem_map.mp h
    cases q
def readPts (ss ws : List Str) : Option (List Pt) :=
  if ws.length = ss.length then allS (List.zipWith readPt ss ws) else none
theorem readPts_str : ∀ {ss ws : List Str} {ps : List Pt}, readPts ss ws = some ps → ps.map Pt.str = ws := by
  intro ss ws ps h
  unfold readPts at h
  split at h
  · rename_i hl
    have e := allS_some h
    clear h
    induction ss generalizing ws ps with
    | nil =>
      cases ws with
      | nil =>
        cases ps with
        | nil => rfl
        | cons p r => cases e
      | cons w r => cases hl
    | cons s ss ih =>
      cases ws with
      | nil => cases hl
      | cons w ws =>
        cases ps with
        | nil => cases e
        | cons p ps =>
          rw [List.zipWith_cons_cons, List.map_cons] at e
          injection e with e1 e2
          rw [List.map_cons, readPt_str e1, ih (by simpa using hl) e2]
  · cases h
def s3 : List Str := ["name", "name", "goal"]
def read3 : List Str → Option (Str × Str × Nat)
  | [a, b, c] => if nameOk a = true ∧ nameOk b = true then (numOf c).map fun n => (a, b, n) else none
  | _ => none
def ptsOf (c : Str × Str × Nat) : List Pt := [.nam c.1, .nam c.2.1, .num c.2.2]
theorem read3_pts : ∀ ws : List Str, readPts s3 ws = (read3 ws).map ptsOf
  | [] => rfl
  | [_] => rfl
  | [_, _] => rfl
  | _ :: _ :: _ :: _ :: _ => by
    unfold readPts
    rw [if_neg (by
      show ¬ _ = 3
      simp only [List.length_cons]
      omega)]
    rfl
  | [a, b, c] => by
    have n1 : ∀ z, readPt "name" z = if nameOk z = true then some (.nam z) else none := fun z => by
      unfold readPt
      rw [if_neg (by decide +kernel), if_neg (by decide +kernel)]
    have n2 : ∀ z, readPt "goal" z = (numOf z).map .num := fun z => by
      unfold readPt
      rw [if_pos (by decide +kernel)]
    have e0 : readPts s3 [a, b, c] = allS [readPt "name" a, readPt "name" b, readPt "goal" c] := by
      unfold readPts
      exact if_pos rfl
    have e1 : read3 [a, b, c] = if nameOk a = true ∧ nameOk b = true then (numOf c).map fun n => (a, b, n) else none := rfl
    rw [e0, e1, n1, n1, n2]
    by_cases h1 : nameOk a = true
    · rw [if_pos h1]
      by_cases h2 : nameOk b = true
      · rw [if_pos h2, if_pos ⟨h1, h2⟩]
        cases numOf c <;> rfl
      · rw [if_neg h2, if_neg (show ¬ (nameOk a = true ∧ nameOk b = true) from fun q => h2 q.2)]
        rfl
    · rw [if_neg h1, if_neg (show ¬ (nameOk a = true ∧ nameOk b = true) from fun q => h1 q.1)]
      rfl
theorem read3_str {ws : List Str} {c : Str × Str × Nat} (h : read3 ws = some c) : chW c = ws := by
  have e := read3_pts ws
  rw [h] at e
  exact readPts_str (ps := ptsOf c) e
def chunk (ws : List Str) (k : Nat) : List Str := (ws.drop (1 + 3 * k)).take 3
def nch (ws : List Str) : Nat := (ws.length + 1) / 3
def readWt (ws : List Str) : Option Ins :=
  if ws.length < 4 then none else
  match allS ((List.range (nch ws)).map fun k => read3 (chunk ws k)) with
  | none => none
  | some cs => if nameOk (ws.headD "") = true then some (.wt (ws.headD "") cs) else none
theorem chunks_flat (l : List Str) : ∀ m : Nat, (List.range m).flatMap (fun k => (l.drop (3 * k)).take 3) = l.take (3 * m)
  | 0 => by simp
  | m + 1 => by
    rw [List.range_succ, List.flatMap_append, chunks_flat l m]
    simp only [List.flatMap_cons, List.flatMap_nil, List.append_nil]
    rw [show 3 * (m + 1) = 3 * m + 3 by omega, List.take_add]
theorem readWt_words {ws : List Str} {a : Ins} (h : readWt ws = some a) : a.words = ("wait" : Str) :: ws := by
  unfold readWt at h
  split at h
  · cases h
  · rename_i h4
    split at h
    · cases h
    · rename_i cs e
      split at h
      · cases h
        have e2 := allS_some e
        cases ws with
        | nil => exact absurd (by decide) h4
        | cons w r =>
          show ("wait" : Str) :: w :: cs.flatMap chW = ("wait" : Str) :: w :: r
          have e3 : cs.flatMap chW = (List.range (nch (w :: r))).flatMap (fun k => (r.drop (3 * k)).take 3) := by
            have q : ∀ (m : List Nat) (cs : List (Str × Str × Nat)), m.map (fun k => read3 (chunk (w :: r) k)) = cs.map some → cs.flatMap chW = m.flatMap (fun k => (r.drop (3 * k)).take 3) := by
              intro m
              induction m with
              | nil =>
                intro cs h
                cases cs with
                | nil => rfl
                | cons c cs => cases h
              | cons k m ih =>
                intro cs h
                cases cs with
                | nil => cases h
                | cons c cs =>
                  rw [List.map_cons, List.map_cons] at h
                  injection h with h1 h2
                  rw [List.flatMap_cons, List.flatMap_cons, ih cs h2, read3_str h1]
                  unfold chunk
                  rw [Nat.add_comm 1, List.drop_succ_cons]
            exact q _ _ e2
          rw [e3, chunks_flat, List.take_of_length_le]
          unfold nch
          simp only [List.length_cons]
          omega
      · cases h
def forms : List (Str × List Str) := [("push", ["number"]), ("load", ["name"]), ("store", ["name"]), ("add", []), ("sub", []), ("mul", []), ("less", []), ("same", []), ("jump", ["goal"]), ("zero", ["goal"]),
  ("emit", ["end", "name"]), ("wait", ["end", "choices"]), ("input", ["name"]), ("round", ["number", "goal"]), ("yes", ["number"]), ("no", ["number"]), ("test", ["answer"]), ("stop", [])]
def formOf (w : Str) : Option (List Str) := (forms.find? fun p => decide (p.1 = w)).map (·.2)
def readWs : List Str → Option Ins
  | [] => none
  | w :: r => if w = "wait" then readWt r else (formOf w).bind fun ss => (readPts ss r).map (.pl w)
def readLn (z : Str) : Option Ins := readWs (Txt.split z " ")
theorem readWs_words : ∀ {ws : List Str} {a : Ins}, readWs ws = some a → a.words = ws
  | [], a, h => by cases h
  | w :: r, a, h => by
    have h : (if w = "wait" then readWt r else (formOf w).bind fun ss => (readPts ss r).map (Ins.pl w)) = some a := h
    split at h
    · rename_i e
      rw [readWt_words h, e]
    · cases e : formOf w with
      | none => rw [e] at h; cases h
      | some ss =>
        rw [e] at h
        have h : (readPts ss r).map (Ins.pl w) = some a := h
        cases e2 : readPts ss r with
        | none => rw [e2] at h; cases h
        | some ps =>
          rw [e2] at h
          cases h
          show w :: ps.map Pt.str = _
          rw [readPts_str e2]
/-! ### split, joined again -/
theorem tl_sp : TL.tl (Str.ofString " ") = [32] := by decide +kernel
theorem tl_nl : TL.tl (Str.ofString "\n") = [10] := by decide +kernel
theorem pre1 (s c : Nat) (r : List Nat) : TL.pre [s] (c :: r) = decide (c = s) := by
  unfold TL.pre
  by_cases h : c = s
  · subst h
    rw [decide_eq_true rfl]
    exact beq_self_eq_true _
  · rw [decide_eq_false h]
    show ((c :: r).take 1 == [s]) = false
    rw [beq_eq_false_iff_ne]
    intro q
    rw [List.take_succ_cons] at q
    injection q with q _
    exact h q
theorem spl_ne (s : Nat) : ∀ (l acc : List Nat), ∃ p r, TL.spl [s] 0 acc l = p :: r
  | [], acc => ⟨_, _, TL.spl_nil ..⟩
  | c :: r, acc => by
    by_cases h : TL.pre [s] (c :: r) = true
    · exact ⟨_, _, TL.spl_hit h⟩
    · rw [TL.spl_miss (Bool.eq_false_iff.mpr h)]
      exact spl_ne s r _
theorem glue_spl (s : Nat) : ∀ (l acc : List Nat), TL.joinL [s] (TL.spl [s] 0 acc l) = acc ++ l
  | [], acc => by
    rw [TL.spl_nil, List.append_nil]
    rfl
  | c :: r, acc => by
    by_cases h : TL.pre [s] (c :: r) = true
    · rw [TL.spl_hit h]
      rw [pre1] at h
      have e : c = s := of_decide_eq_true h
      obtain ⟨p, q, e2⟩ := spl_ne s r []
      have ih := glue_spl s r []
      rw [show [s].length - 1 = 0 from rfl, e2]
      rw [e2] at ih
      show acc ++ ([s] ++ TL.joinL [s] (p :: q)) = _
      rw [ih, e]
      rfl
    · rw [TL.spl_miss (Bool.eq_false_iff.mpr h), glue_spl s r]
      simp
theorem sp_kind (z : Str) : ¬ Builtin.Str.strKind z < Builtin.Str.strKind (Str.ofString " ") := TL.kind_ok (by decide +kernel)
theorem nl_kind (z : Str) : ¬ Builtin.Str.strKind z < Builtin.Str.strKind (Str.ofString "\n") := TL.kind_ok (by decide +kernel)
theorem join_split (z : Str) : Txt.join " " (Txt.split z " ") = z := by
  refine TL.ext_tl ?_
  show TL.tl (Txt.join (Str.ofString " ") (Txt.split z (Str.ofString " "))) = _
  rw [TL.join_eq, TL.tl_join, TL.split_spl z (Str.ofString " ") (by rw [tl_sp]; simp) (sp_kind z), tl_sp, glue_spl, List.nil_append]
theorem split_ne (z : Str) : ∃ w r, Txt.split z " " = w :: r := by
  cases e : Txt.split z " " with
  | cons w r => exact ⟨w, r, rfl⟩
  | nil =>
    have h := TL.split_spl z (Str.ofString " ") (by rw [tl_sp]; simp) (sp_kind z)
    obtain ⟨p, r, e2⟩ := spl_ne 32 (TL.tl z) []
    rw [tl_sp, e2] at h
    have e : Txt.split z (Str.ofString " ") = [] := e
    rw [e] at h
    cases h
theorem readLn_line {z : Str} {a : Ins} (h : readLn z = some a) : a.line = z := by
  unfold Ins.line
  rw [readWs_words h, join_split]
theorem read_line {a : Ins} (h : readWs a.words = some a) (hs : ∀ x ∈ a.words, 32 ∉ TL.tl x) : readLn a.line = some a := by
  have hne : a.words ≠ [] := by cases a <;> exact fun q => by cases q
  unfold readLn Ins.line
  have e : Txt.split (Txt.join (Str.ofString " ") a.words) (Str.ofString " ") = a.words := TL.split_join tl_sp (by decide +kernel) hne hs
  show readWs (Txt.split (Txt.join (Str.ofString " ") a.words) (Str.ofString " ")) = _
  rw [e, h]
/-! ### lengths -/
theorem joinL_len (s : Nat) : ∀ (l : List (List Nat)), (l.map (·.length)).sum + l.length ≤ (TL.joinL [s] l).length + 1
  | [] => by simp [TL.joinL]
  | [p] => by simp [TL.joinL]
  | p :: q :: r => by
    have ih := joinL_len s (q :: r)
    show ((p :: q :: r).map (·.length)).sum + (p :: q :: r).length ≤ (p ++ ([s] ++ TL.joinL [s] (q :: r))).length + 1
    rw [List.length_append, List.length_append, List.map_cons, List.sum_cons, List.length_cons (as := q :: r)]
    simp only [List.length_singleton]
    omega
/-- signs and words of a line -/
def Ins.size (a : Ins) : Nat := (a.words.map (·.length)).sum + a.words.length
theorem size_le (a : Ins) : a.size ≤ a.line.length + 1 := by
  unfold Ins.size Ins.line
  have e := TL.tl_join (Str.ofString " ") a.words
  have h := joinL_len 32 (a.words.map TL.tl)
  rw [List.map_map, List.length_map] at h
  have e2 : (Txt.join (Str.ofString " ") a.words).length = (TL.joinL [32] (a.words.map TL.tl)).length := by
    rw [TL.len_tl, TL.join_eq, e, tl_sp]
  show _ ≤ (Txt.join (Str.ofString " ") a.words).length + 1
  rw [e2]
  have e3 : (a.words.map (·.length)) = a.words.map ((fun x => x.length) ∘ TL.tl) := List.map_congr_left fun x _ => TL.len_tl x
  rw [e3]
  exact h
theorem line_len (a : Ins) : a.line.length ≤ a.size := by
  have h := StrLaws.join_length_le (Str.ofString " ") a.words
  unfold Ins.size Ins.line
  show (Txt.join (Str.ofString " ") a.words).length ≤ _
  rw [TL.join_eq]
  have e : (Str.ofString " ").length = 1 := by decide +kernel
  rw [e, Nat.mul_one] at h
  exact h
end OS

/-! Texts of code: the lines of a text, where reading stops. -/
namespace OS
open PySem PySem.Spec PyProof.Rows L2
def sliceS (t : List Nat) (i j : Nat) : Str := ⟨((t.drop i).take (j - i)).toArray⟩
inductive Lns (t : List Nat) : Nat → List Ins → Option Nat → Prop
  | done {i : Nat} : t.length ≤ i → Lns t i [] none
  | cut {i : Nat} : i < t.length → run notNl t i = t.length → Lns t i [] (some t.length)
  | bad {i : Nat} : i < t.length → run notNl t i < t.length → readLn (sliceS t i (run notNl t i)) = none → Lns t i [] (some i)
  | ok {i : Nat} {a : Ins} {L : List Ins} {r : Option Nat} : i < t.length → run notNl t i < t.length → readLn (sliceS t i (run notNl t i)) = some a → Lns t (run notNl t i + 1) L r → Lns t i (a :: L) r
theorem Lns.det {t : List Nat} {i : Nat} {L M : List Ins} {r q : Option Nat} (h : Lns t i L r) : Lns t i M q → L = M ∧ r = q := by
  induction h generalizing M q with
  | done h =>
    intro g
    cases g with
    | done _ => exact ⟨rfl, rfl⟩
    | cut h1 _ => omega
    | bad h1 _ _ => omega
    | ok h1 _ _ _ => omega
  | cut h e =>
    intro g
    cases g with
    | done h1 => omega
    | cut _ _ => exact ⟨rfl, rfl⟩
    | bad _ h1 _ => omega
    | ok _ h1 _ _ => omega
  | bad h e n =>
    intro g
    cases g with
    | done h1 => omega
    | cut _ h1 => omega
    | bad _ _ _ => exact ⟨rfl, rfl⟩
    | ok _ _ h1 _ => rw [n] at h1; cases h1
  | ok h e n _ ih =>
    intro g
    cases g with
    | done h1 => omega
    | cut _ h1 => omega
    | bad _ _ h1 => rw [n] at h1; cases h1
    | ok _ _ h1 g =>
      rw [n] at h1
      cases h1
      obtain ⟨e1, e2⟩ := ih g
      rw [e1, e2]
      exact ⟨rfl, rfl⟩
/-- the text of instructions -/
def txtL (L : List Ins) : List Nat := L.flatMap fun a => TL.tl a.line ++ [10]
def good (a : Ins) : Prop := 10 ∉ TL.tl a.line ∧ readLn a.line = some a
theorem run_take {t : List Nat} {i : Nat} : (t.drop i).take (run notNl t i - i) = (t.drop i).takeWhile notNl := by
  unfold run
  rw [show i + ((t.drop i).takeWhile notNl).length - i = ((t.drop i).takeWhile notNl).length by omega]
  have e := List.takeWhile_append_dropWhile (p := notNl) (l := t.drop i)
  have q : ((t.drop i).takeWhile notNl ++ (t.drop i).dropWhile notNl).take ((t.drop i).takeWhile notNl).length = (t.drop i).takeWhile notNl := List.take_left
  rw [e] at q
  exact q
theorem no_nl {t : List Nat} {i : Nat} : 10 ∉ (t.drop i).takeWhile notNl := fun h => by
  have := List.all_takeWhile (p := notNl) (l := t.drop i)
  have := List.all_eq_true.mp this 10 h
  cases this
theorem at_nl {t : List Nat} {i : Nat} (h : run notNl t i < t.length) : t.drop i = (t.drop i).takeWhile notNl ++ 10 :: t.drop (run notNl t i + 1) := by
  have e := List.takeWhile_append_dropWhile (p := notNl) (l := t.drop i)
  have hd : (t.drop i).dropWhile notNl = t.drop (run notNl t i) := by
    have e2 : (t.drop i).drop ((t.drop i).takeWhile notNl).length = (t.drop i).dropWhile notNl := by
      have q := congrArg (List.drop ((t.drop i).takeWhile notNl).length) e
      rw [List.drop_left] at q
      exact q.symm
    rw [← e2, List.drop_drop]
    rfl
  have hc : t[run notNl t i]? = some (t[run notNl t i]'h) := List.getElem?_eq_getElem h
  have hh := drop_at hc
  have c10 : t[run notNl t i]'h = 10 := by
    have q : ((t.drop i).dropWhile notNl).head? = some (t[run notNl t i]'h) := by rw [hd, hh]; rfl
    have n := List.head?_dropWhile_not notNl (t.drop i)
    rw [q] at n
    have n : (!notNl (t[run notNl t i]'h)) = true := by
      first
        | exact n
        | simpa using n
    have n2 : (!(t[run notNl t i]'h != 10)) = true := n
    generalize t[run notNl t i]'h = x at n2
    rw [Bool.not_eq_true', bne_eq_false_iff_eq] at n2
    exact n2
  conv => lhs; rw [← e]
  rw [hd, hh, c10]
theorem drop_run {t : List Nat} {i : Nat} (h : run notNl t i = t.length) : 10 ∉ t.drop i := fun hm => by
  have e := List.takeWhile_append_dropWhile (p := notNl) (l := t.drop i)
  have hl : ((t.drop i).takeWhile notNl).length = (t.drop i).length := by
    unfold run at h
    have := List.length_drop (i := i) (l := t)
    by_cases c : i ≤ t.length
    · omega
    · have e0 : t.drop i = [] := List.drop_eq_nil_of_le (by omega)
      rw [e0]
      rfl
  have e2 : (t.drop i).takeWhile notNl = t.drop i := by
    have q := congrArg List.length e
    rw [List.length_append, hl] at q
    have z : (t.drop i).dropWhile notNl = [] := List.eq_nil_of_length_eq_zero (by omega)
    rw [z, List.append_nil] at e
    exact e
  rw [← e2] at hm
  exact no_nl hm
/-- where reading stops, and that all before it is right -/
theorem Lns.stop {t : List Nat} {i : Nat} {L : List Ins} {r : Option Nat} (h : Lns t i L r) : i ≤ t.length → ∃ k, i ≤ k ∧ k ≤ t.length ∧ t.drop i = txtL L ++ t.drop k ∧ (txtL L).length = k - i ∧ (∀ a ∈ L, good a) ∧
    ((r = none ∧ k = t.length) ∨ (r = some t.length ∧ k < t.length ∧ 10 ∉ t.drop k) ∨ (r = some k ∧ k < t.length ∧ run notNl t k < t.length ∧ readLn (sliceS t k (run notNl t k)) = none)) := by
  induction h with
  | done h =>
    intro hi
    exact ⟨t.length, hi, Nat.le_refl _, by rw [List.drop_eq_nil_of_le h, List.drop_eq_nil_of_le (Nat.le_refl _)]; rfl, by show 0 = _; omega, fun _ h => (by cases h), .inl ⟨rfl, rfl⟩⟩
  | @cut i h e =>
    intro hi
    exact ⟨i, Nat.le_refl _, hi, rfl, by show 0 = _; omega, fun _ h => (by cases h), .inr (.inl ⟨rfl, h, drop_run e⟩)⟩
  | @bad i h e n =>
    intro hi
    exact ⟨i, Nat.le_refl _, hi, rfl, by show 0 = _; omega, fun _ h => (by cases h), .inr (.inr ⟨rfl, h, e, n⟩)⟩
  | @ok i a L r h e n _ ih =>
    intro hi
    obtain ⟨k, k1, k2, k3, k4, k5, k6⟩ := ih (by omega)
    have hl := readLn_line n
    have ht : TL.tl a.line = (t.drop i).takeWhile notNl := by
      rw [hl]
      show (t.drop i).take (run notNl t i - i) = _
      exact run_take
    have g := le_run notNl t i
    have tl1 : (TL.tl a.line).length = run notNl t i - i := by
      rw [ht]
      unfold run
      omega
    refine ⟨k, by omega, k2, ?_, ?_, ?_, k6⟩
    · rw [at_nl e, k3, ← ht]
      show _ = ((TL.tl a.line ++ [10]) ++ txtL L) ++ _
      simp
    · show ((TL.tl a.line ++ [10]) ++ txtL L).length = _
      rw [List.length_append, List.length_append, k4, tl1]
      show run notNl t i - i + 1 + _ = _
      omega
    · intro b hb
      rcases List.mem_cons.mp hb with rfl | hb
      · exact ⟨by rw [ht]; exact no_nl, by rw [hl]; exact n⟩
      · exact k5 b hb
theorem run_app {u v w : List Nat} (h : 10 ∉ v) : run notNl (u ++ (v ++ 10 :: w)) u.length = u.length + v.length := by
  unfold run
  rw [List.drop_left]
  have e : (v ++ 10 :: w).takeWhile notNl = v := by
    rw [List.takeWhile_append_of_pos]
    · rw [List.takeWhile_cons]
      show v ++ (if notNl 10 = true then _ else []) = v
      rw [if_neg (by decide), List.append_nil]
    · intro a ha
      unfold notNl
      rw [bne_iff_ne]
      intro q
      rw [q] at ha
      exact h ha
  rw [e]
/-- the text of right lines is read -/
theorem lns_good : ∀ (L : List Ins) (u : List Nat), (∀ a ∈ L, good a) → Lns (u ++ txtL L) u.length L none
  | [], u, _ => .done (by show (u ++ []).length ≤ _; rw [List.append_nil]; exact Nat.le_refl _)
  | a :: L, u, hg => by
    have ga := hg a (List.mem_cons_self ..)
    have e0 : u ++ txtL (a :: L) = u ++ (TL.tl a.line ++ 10 :: txtL L) := by
      show u ++ ((TL.tl a.line ++ [10]) ++ txtL L) = _
      simp
    have er := run_app (u := u) (w := txtL L) ga.1
    rw [e0]
    have hlen : (u ++ (TL.tl a.line ++ 10 :: txtL L)).length = u.length + ((TL.tl a.line).length + ((txtL L).length + 1)) := by
      rw [List.length_append, List.length_append, List.length_cons]
    refine .ok (by omega) (by omega) ?_ ?_
    · rw [er]
      have e1 : sliceS (u ++ (TL.tl a.line ++ 10 :: txtL L)) u.length (u.length + (TL.tl a.line).length) = a.line := by
        unfold sliceS
        rw [List.drop_left, show u.length + (TL.tl a.line).length - u.length = (TL.tl a.line).length by omega, List.take_left]
      rw [e1]
      exact ga.2
    · rw [er]
      have ih := lns_good L (u ++ (TL.tl a.line ++ [10])) fun b hb => hg b (List.mem_cons_of_mem _ hb)
      have e2 : (u ++ (TL.tl a.line ++ [10])) ++ txtL L = u ++ (TL.tl a.line ++ 10 :: txtL L) := by simp
      rw [e2] at ih
      have e3 : (u ++ (TL.tl a.line ++ [10])).length = u.length + (TL.tl a.line).length + 1 := by
        rw [List.length_append, List.length_append]
        rfl
      rw [e3] at ih
      exact ih
theorem lns_txt {L : List Ins} (h : ∀ a ∈ L, good a) : Lns (txtL L) 0 L none := by
  have := lns_good L [] h
  exact this
/-! ### the starts of lines -/
def stL (t : List Nat) : List Nat := 0 :: ((List.range t.length).filter fun j => decide (t[j]? = some 10)).map (· + 1)
theorem st_app {u v : List Nat} (h : 10 ∉ v) : stL (u ++ v) = stL u := by
  unfold stL
  rw [List.length_append, List.range_add, List.filter_append]
  have e1 : (List.range u.length).filter (fun j => decide ((u ++ v)[j]? = some 10)) = (List.range u.length).filter (fun j => decide (u[j]? = some 10)) := by
    refine List.filter_congr fun j hj => ?_
    rw [List.getElem?_append_left (List.mem_range.mp hj)]
  have e2 : ((List.range v.length).map (u.length + ·)).filter (fun j => decide ((u ++ v)[j]? = some 10)) = [] := by
    rw [List.filter_eq_nil_iff]
    intro j hj
    obtain ⟨m, hm, rfl⟩ := List.mem_map.mp hj
    rw [List.getElem?_append_right (Nat.le_add_right _ _), Nat.add_sub_cancel_left]
    intro q
    exact h (List.mem_of_getElem? (of_decide_eq_true q))
  rw [e1, e2, List.append_nil]
theorem st_snoc (u : List Nat) : stL (u ++ [10]) = stL u ++ [u.length + 1] := by
  unfold stL
  rw [List.length_append, List.length_singleton, List.range_succ, List.filter_append]
  have e1 : (List.range u.length).filter (fun j => decide ((u ++ [10])[j]? = some 10)) = (List.range u.length).filter (fun j => decide (u[j]? = some 10)) := by
    refine List.filter_congr fun j hj => ?_
    rw [List.getElem?_append_left (List.mem_range.mp hj)]
  have e2 : [u.length].filter (fun j => decide ((u ++ [10])[j]? = some 10)) = [u.length] := by
    rw [List.filter_cons_of_pos]
    · rfl
    · rw [List.getElem?_append_right (Nat.le_refl _), Nat.sub_self]
      decide
  rw [e1, e2, List.map_append]
  rfl
/-- behind right lines a line starts -/
theorem txtL_end : ∀ L : List Ins, L = [] ∨ ∃ u, txtL L = u ++ [10]
  | [] => .inl rfl
  | a :: L => by
    rcases txtL_end L with rfl | ⟨u, e⟩
    · exact .inr ⟨TL.tl a.line, by show (TL.tl a.line ++ [10]) ++ [] = _; rw [List.append_nil]⟩
    · refine .inr ⟨(TL.tl a.line ++ [10]) ++ u, ?_⟩
      show (TL.tl a.line ++ [10]) ++ txtL L = _
      rw [e]
      simp
theorem st_txt (L : List Ins) : ∃ M, stL (txtL L) = M ++ [(txtL L).length] := by
  rcases txtL_end L with rfl | ⟨u, e⟩
  · exact ⟨[], rfl⟩
  · rw [e, st_snoc, List.length_append]
    exact ⟨_, rfl⟩
theorem mem_st_app {u v : List Nat} {k : Nat} (h : k ∈ stL u) : k ∈ stL (u ++ v) := by
  unfold stL at h ⊢
  rcases List.mem_cons.mp h with h | h
  · rw [h]; exact List.mem_cons_self ..
  · refine List.mem_cons_of_mem _ ?_
    obtain ⟨j, hj, rfl⟩ := List.mem_map.mp h
    obtain ⟨h1, h2⟩ := List.mem_filter.mp hj
    refine List.mem_map.mpr ⟨j, List.mem_filter.mpr ⟨?_, ?_⟩, rfl⟩
    · rw [List.length_append]
      exact List.mem_range.mpr (Nat.lt_of_lt_of_le (List.mem_range.mp h1) (Nat.le_add_right _ _))
    · rw [List.getElem?_append_left (List.mem_range.mp h1)]
      exact h2
theorem st_not_end {t : List Nat} (hn : 0 < t.length) (h : t[t.length - 1]? ≠ some 10) : t.length ∉ stL t := fun hm => by
  unfold stL at hm
  rcases List.mem_cons.mp hm with e | hm
  · omega
  · obtain ⟨j, hj, e⟩ := List.mem_map.mp hm
    obtain ⟨_, h2⟩ := List.mem_filter.mp hj
    have e : j + 1 = t.length := e
    have : j = t.length - 1 := by omega
    rw [this] at h2
    exact h (of_decide_eq_true h2)
/-- all that the law asks of a place of failure -/
theorem Lns.fails {t : List Nat} {L : List Ins} {j : Nat} (h : Lns t 0 L (some j)) : (∀ a ∈ L, good a) ∧ ∃ k, k ∈ stL t ∧ k < t.length ∧ Lns (t.take k) 0 L none ∧
    ((j = t.length ∧ j ∉ stL t ∧ t[t.length - 1]? ≠ some 10 ∧ ∃ M, stL t = M ++ [k]) ∨
     (j = k ∧ ∃ p q, t.drop k = p ++ 10 :: q ∧ 10 ∉ p ∧ readLn ⟨p.toArray⟩ = none)) := by
  obtain ⟨k, _, k2, k3, k4, k5, k6⟩ := h.stop (Nat.zero_le _)
  rw [List.drop_zero] at k3
  have k4 : (txtL L).length = k := by rw [k4]; exact Nat.sub_zero k
  obtain ⟨M, eM⟩ := st_txt L
  have kin : k ∈ stL t := by
    rw [k3]
    refine mem_st_app ?_
    rw [eM, k4]
    exact List.mem_append_right _ (List.mem_singleton.mpr rfl)
  have htk : t.take k = txtL L := by
    conv => lhs; rw [k3]
    rw [← k4, List.take_left]
  refine ⟨k5, k, kin, ?_, ?_, ?_⟩
  · rcases k6 with ⟨e, _⟩ | ⟨_, e, _⟩ | ⟨_, e, _⟩
    · cases e
    · exact e
    · exact e
  · rw [htk]
    exact lns_txt k5
  · rcases k6 with ⟨e, _⟩ | ⟨e, e2, e3⟩ | ⟨e, e2, e3, e4⟩
    · cases e
    · have ej : j = t.length := Option.some.inj e
      subst ej
      have h10 : t[t.length - 1]? ≠ some 10 := fun q => by
        refine e3 ?_
        have q2 : (t.drop k)[t.length - 1 - k]? = some 10 := by
          rw [List.getElem?_drop, show k + (t.length - 1 - k) = t.length - 1 by omega]
          exact q
        exact List.mem_of_getElem? q2
      refine .inl ⟨rfl, st_not_end (by omega) h10, h10, M, ?_⟩
      rw [k3, st_app e3, eM, k4]
    · have ej : j = k := Option.some.inj e
      refine .inr ⟨ej, _, _, at_nl e3, no_nl, ?_⟩
      rw [← run_take]
      exact e4
end OS

namespace OS
open PySem PySem.Spec PyProof.Rows L2
def topS (i : Nat) : Stmt := PySem.Challenge.pw_onescore_k35_texts_of_code.main.body.getD i (.Pass ⟨0, 0, 0, 0⟩)
abbrev s_SyntaxProblem___init__ : Stmt := inClass (topS 2) 0
abbrev s_run_end : Stmt := topS 9
theorem sc_run_end : FnScope ["text", "at", "letters"] ["text", "at", "letters"] (defScope s_run_end) := ⟨rfl, rfl, rfl, by decide +kernel, rfl, by decide +kernel, by decide +kernel⟩
abbrev s_line_of : Stmt := topS 12
theorem sc_line_of : FnScope ["instruction", "parts", "choice", "part"] ["instruction"] (defScope s_line_of) := ⟨rfl, rfl, rfl, by decide +kernel, rfl, by decide +kernel, by decide +kernel⟩
abbrev s_write_code : Stmt := topS 13
theorem sc_write_code : FnScope ["code", "instruction"] ["code"] (defScope s_write_code) := ⟨rfl, rfl, rfl, by decide +kernel, rfl, by decide +kernel, by decide +kernel⟩
abbrev s_is_name : Stmt := topS 14
theorem sc_is_name : FnScope ["word"] ["word"] (defScope s_is_name) := ⟨rfl, rfl, rfl, by decide +kernel, rfl, by decide +kernel, by decide +kernel⟩
abbrev s_is_number : Stmt := topS 15
theorem sc_is_number : FnScope ["word"] ["word"] (defScope s_is_number) := ⟨rfl, rfl, rfl, by decide +kernel, rfl, by decide +kernel, by decide +kernel⟩
abbrev s_read_part : Stmt := topS 16
theorem sc_read_part : FnScope ["sort", "word"] ["sort", "word"] (defScope s_read_part) := ⟨rfl, rfl, rfl, by decide +kernel, rfl, by decide +kernel, by decide +kernel⟩
abbrev s_read_parts : Stmt := topS 17
theorem sc_read_parts : FnScope ["sorts", "words", "parts", "sort", "word"] ["sorts", "words"] (defScope s_read_parts) := ⟨rfl, rfl, rfl, by decide +kernel, rfl, by decide +kernel, by decide +kernel⟩
abbrev s_read_wait : Stmt := topS 18
theorem sc_read_wait : FnScope ["words", "choices", "at"] ["words"] (defScope s_read_wait) := ⟨rfl, rfl, rfl, by decide +kernel, rfl, by decide +kernel, by decide +kernel⟩
abbrev s_read_line : Stmt := topS 19
theorem sc_read_line : FnScope ["line", "words", "parts"] ["line"] (defScope s_read_line) := ⟨rfl, rfl, rfl, by decide +kernel, rfl, by decide +kernel, by decide +kernel⟩
abbrev s_read_code : Stmt := topS 20
theorem sc_read_code : FnScope ["text", "code", "start", "end", "instruction"] ["text"] (defScope s_read_code) := ⟨rfl, rfl, rfl, by decide +kernel, rfl, by decide +kernel, by decide +kernel⟩
abbrev s__law_tape : Stmt := topS 22
theorem sc__law_tape : FnScope ["script", "cell", "cells", "seed"] ["script"] (defScope s__law_tape) := ⟨rfl, rfl, rfl, by decide +kernel, rfl, by decide +kernel, by decide +kernel⟩
abbrev s__law_take : Stmt := topS 23
theorem sc__law_take : FnScope ["tape", "many", "drawn", "mixed"] ["tape", "many"] (defScope s__law_take) := ⟨rfl, rfl, rfl, by decide +kernel, rfl, by decide +kernel, by decide +kernel⟩
abbrev s__law_is_integer : Stmt := topS 24
theorem sc__law_is_integer : FnScope ["actual"] ["actual"] (defScope s__law_is_integer) := ⟨rfl, rfl, rfl, by decide +kernel, rfl, by decide +kernel, by decide +kernel⟩
abbrev s__law_same_items : Stmt := topS 25
theorem sc__law_same_items : FnScope ["actual", "expected", "k"] ["actual", "expected"] (defScope s__law_same_items) := ⟨rfl, rfl, rfl, by decide +kernel, rfl, by decide +kernel, by decide +kernel⟩
abbrev s__law_same : Stmt := topS 26
theorem sc__law_same : FnScope ["actual", "expected", "key"] ["actual", "expected"] (defScope s__law_same) := ⟨rfl, rfl, rfl, by decide +kernel, rfl, by decide +kernel, by decide +kernel⟩
abbrev s__law_instruction : Stmt := topS 27
theorem sc__law_instruction : FnScope ["tape", "name", "goal", "choices", "menu", "k"] ["tape"] (defScope s__law_instruction) := ⟨rfl, rfl, rfl, by decide +kernel, rfl, by decide +kernel, by decide +kernel⟩
abbrev s__law_line : Stmt := topS 28
theorem sc__law_line : FnScope ["one", "words", "part", "choice"] ["one"] (defScope s__law_line) := ⟨rfl, rfl, rfl, by decide +kernel, rfl, by decide +kernel, by decide +kernel⟩
abbrev s__law_bent : Stmt := topS 29
theorem sc__law_bent : FnScope ["tape", "text", "k", "more"] ["tape", "text"] (defScope s__law_bent) := ⟨rfl, rfl, rfl, by decide +kernel, rfl, by decide +kernel, by decide +kernel⟩
abbrev s__law_read : Stmt := topS 30
theorem sc__law_read : FnScope ["text", "e"] ["text"] (defScope s__law_read) := ⟨rfl, rfl, rfl, by decide +kernel, rfl, by decide +kernel, by decide +kernel⟩
abbrev s_law : Stmt := topS 31
theorem sc_law : FnScope ["script", "tape", "k", "code", "text", "bent", "word", "told", "starts", "start", "line", "one", "j"] ["script"] (defScope s_law) := ⟨rfl, rfl, rfl, by decide +kernel, rfl, by decide +kernel, by decide +kernel⟩
/-- the built-in names are the built-ins' -/
structure Txt (K : PySem.W.Frag) (mg : Str → Option Value) : Prop where
  len : mg "len" = none
  abs : mg "abs" = none
  int : mg "int" = none
  bool : mg "bool" = none
  str : mg "str" = none
  list : mg "list" = none
  tuple : mg "tuple" = none
  dict : mg "dict" = none
  isinstance : mg "isinstance" = none
  range : mg "range" = none
  zip : mg "zip" = none
def zDIG : Str := "0123456789"
def zNAM : Str := "abcdefghijklmnopqrstuvwxyzABCDEFGHIJKLMNOPQRSTUVWXYZ0123456789_"
def ansL : List Str := ["yes", "no"]
/-- the program's constants -/
structure CodTxt (K : PySem.W.Frag) (w : World) (mg : Str → Option Value) : Prop where
  mDIG : ∃ t, mg "DIGITS" = some (.str zDIG t)
  mNAM : ∃ t, mg "LETTERS_OF_NAMES" = some (.str zNAM t)
  mMOD : ∃ t, mg "MODULUS" = some (.int 4294967296 t)
  mMOS : ∃ t, mg "MOST_DIGITS" = some (.int 10 t)
  mANS : ∃ a, mg "ANSWERS" = some (.ref a) ∧ ∀ H, SqT K H a (ansL.map V.str)
  mFOR : ∃ d es n, mg "FORMS" = some (.ref d) ∧ KDict K w d es n ∧ (∀ z, formOf z = none → PySem.W.nsIn K d z = some none) ∧ ∀ z ss, formOf z = some ss → ∃ p, PySem.W.nsIn K d z = some (some (.ref p)) ∧ ∀ H, SqT K H p (ss.map V.str)
theorem low_of {z : Str} (h : z.cps.toList.all (fun c => decide (c < 128)) = true) {c : Nat} (hc : ¬ c < 128) : inS z c = false := by
  unfold inS
  refine decide_eq_false fun m => hc ?_
  exact of_decide_eq_true (List.all_eq_true.mp h c m)
theorem inS_DIG (c : Nat) : inS zDIG c = isDigit c := by
  by_cases h : c < 128
  · have q : ∀ c : Nat, c < 128 → inS zDIG c = isDigit c := by decide +kernel
    exact q c h
  · rw [low_of (by decide +kernel) h]
    unfold isDigit
    rw [decide_eq_false (show ¬ c ≤ 57 by omega)]
    simp
theorem inS_NAM (c : Nat) : inS zNAM c = isName c := by
  by_cases h : c < 128
  · have q : ∀ c : Nat, c < 128 → inS zNAM c = isName c := by decide +kernel
    exact q c h
  · rw [low_of (by decide +kernel) h]
    unfold isName isLetter isDigit
    rw [decide_eq_false (show ¬ c ≤ 122 by omega), decide_eq_false (show ¬ c ≤ 90 by omega), decide_eq_false (show ¬ c ≤ 57 by omega)]
    have e : (c == 95) = false := by
      rw [beq_eq_false_iff_ne]
      omega
    rw [e]
    simp
section
variable {P : Program} {w : World} {K : PySem.W.Frag} {mg : Str → Option Value} {base : Heap}
/-! ### run_end -/
def spRun : Sp := fun vs H Q _ => ∃ (z l : Str) (i : Nat), vs = [.str z, .int i, .str l] ∧ z.length ≤ 100000 ∧ i ≤ z.length ∧ Q (.int (run (inS l) z.cps.toList i : Nat)) H
theorem ok_run_end {f : Addr} {fd : FuncData} (F : Fun K "run_end" "run_end" s_run_end f fd) (T : Txt K mg) : FnOk P w K mg base CX0 1 f fd ["text", "at", "letters"] spRun := by
  refine F.ok sc_run_end (fun vs H Q E h => ?_) (fun cdv A outer s H vs Q E hr h => ?_)
  · obtain ⟨z, l, i, rfl, _⟩ := h
    rfl
  · obtain ⟨z, l, i, rfl, hz, hi, k⟩ := h
    have hzl := len_cps z
    refine ⟨_, (pss_cons (ps_while PassesOwn.never (PW.pt (pw_and (pt_cmpR op_lt (pv 1) (pe_callB call_len_str (by rfl) T.len PySem.boot_len (pa_cons (pv 0) pa_nil)) (nomark _)) (pw_and1 (pt_cmpR op_in_sign (pe_ix ix_str (pv 0) (pv 1) (fun _ _ => rfl)) (pv 2) (by rfl))))) (pss_one (ps_aug (i := 1) sc_run_end.nd rfl (.inl rfl) pe_int ip_add)))
      (pss_one (ps_ret (pv 1)))), ?_⟩
    refine ⟨fun m σ H' => ∃ j : Nat, σ = [some (.str z), some (.int j), some (.str l)] ∧ m + j = z.length ∧ run (inS l) z.cps.toList j = run (inS l) z.cps.toList i ∧ H' = H,
      ⟨z.length - i, i, rfl, by omega, rfl, rfl⟩, ?_⟩
    rintro m σ H' ⟨j, rfl, hj, ej, rfl⟩
    refine ⟨_, rfl, _, rfl, z, rfl, sz6 hz, _, _, rfl, rfl, _, rfl, ?_⟩
    by_cases c1 : j < z.length
    · rw [decide_eq_true (show (j : Int) < (z.length : Int) by omega)]
      refine iteT ?_
      obtain ⟨c, ec⟩ : ∃ c, z.cps.toList[j]? = some c := ⟨_, List.getElem?_eq_getElem (by omega)⟩
      refine ⟨_, rfl, _, rfl, z, _, c, rfl, rfl, sz6 hz, atI_cps ec, _, rfl, c, l, rfl, rfl, _, rfl, ?_⟩
      by_cases c2 : inS l c = true
      · rw [show decide (c ∈ l.cps.toList) = true from c2]
        refine iteT ⟨_, fun _ _ h => h, ?_⟩
        refine ⟨_, rfl, _, _, rfl, rfl, ?_⟩
        exact ⟨m - 1, by omega, j + 1, rfl, by omega, by rw [← run_go ec c2]; exact ej, rfl⟩
      · rw [show decide (c ∈ l.cps.toList) = false from Bool.eq_false_iff.mpr c2]
        refine iteF ⟨_, rfl, ?_⟩
        rw [← ej, run_stop ec (Bool.eq_false_iff.mpr c2)] at k
        exact k
    · rw [decide_eq_false (show ¬ (j : Int) < (z.length : Int) by omega)]
      refine iteF (iteF ⟨_, rfl, ?_⟩)
      rw [← ej, run_end (by omega)] at k
      exact k
end
end OS

namespace OS
open PySem PySem.Spec PyProof.Rows L2
section
variable {P : Program} {w : World} {K : PySem.W.Frag} {mg : Str → Option Value} {base : Heap}
def spNm : Sp := fun vs H Q _ => ∃ z : Str, vs = [.str z] ∧ z.length ≤ 100000 ∧ Q (.bl (nameOk z)) H
theorem ok_is_name {f : Addr} {fd : FuncData} (F : Fun K "is_name" "is_name" s_is_name f fd) (T : Txt K mg) (TC : CodTxt K w mg) {f_run_end : Addr} {d_run_end : FuncData} (c_run_end : Cal P w K mg base 1 "run_end" ["text", "at", "letters"] spRun f_run_end d_run_end) : FnOk P w K mg base CX0 2 f fd ["word"] spNm := by
  refine F.ok sc_is_name (fun vs H Q E h => ?_) (fun cdv A outer s H vs Q E hr h => ?_)
  · obtain ⟨z, rfl, _⟩ := h
    rfl
  · obtain ⟨z, rfl, hz, k⟩ := h
    obtain ⟨t2, m_LETTERS_OF_NAMES⟩ := TC.mNAM
    refine ⟨_, (pss_one (ps_ret (pe_and (pe_cmpR op_gt (pe_callB call_len_str (by rfl) T.len PySem.boot_len (pa_cons (pv 0) pa_nil)) pe_int (nomark _)) (pe_one (pe_cmpR op_eq (pe_call c_run_end.G (hr.mono (by decide)) (by rfl) c_run_end.m c_run_end.k c_run_end.b .nil pass0 (pa_cons (pv 0) (pa_cons pe_int (pa_cons (pe_glob rfl m_LETTERS_OF_NAMES relS) pa_nil)))) (pe_callB call_len_str (by rfl) T.len PySem.boot_len (pa_cons (pv 0) pa_nil)) (nomark _)))))), ?_⟩
    refine ⟨_, rfl, z, rfl, sz6 hz, _, _, rfl, rfl, _, rfl, ?_⟩
    unfold nameOk at k
    by_cases c1 : 0 < z.length
    · rw [decide_eq_true c1, Bool.true_and] at k
      rw [decide_eq_true (show (0 : Int) < (z.length : Int) by omega)]
      refine iteT ⟨_, rfl, z, zNAM, 0, rfl, hz, Nat.zero_le _, ?_⟩
      rw [run_congr inS_NAM]
      refine ⟨_, rfl, z, rfl, sz6 hz, rfl, ?_⟩
      have e : decide (V.int ((run isName z.cps.toList 0 : Nat) : Int) = V.int (z.length : Int)) = decide (run isName z.cps.toList 0 = z.length) := decide_eq_decide.mpr ⟨fun q => by injection q with q; omega, fun q => by rw [q]⟩
      rw [e]
      exact k
    · rw [decide_eq_false c1, Bool.false_and] at k
      rw [decide_eq_false (show ¬ (0 : Int) < (z.length : Int) by omega)]
      exact iteF k
def spNum : Sp := fun vs H Q _ => ∃ z : Str, vs = [.str z] ∧ z.length ≤ 100000 ∧ Q (.bl (numOf z).isSome) H
theorem run_all {p : Nat → Bool} : ∀ {l : List Nat}, ¬ run p l 0 < l.length → ∀ c ∈ l, p c = true := fun {l} h => by
  have e := List.takeWhile_append_dropWhile (p := p) (l := l)
  unfold run at h
  rw [List.drop_zero, Nat.zero_add] at h
  have e2 : l.dropWhile p = [] := by
    have q := congrArg List.length e
    rw [List.length_append] at q
    exact List.eq_nil_of_length_eq_zero (by omega)
  rw [e2, List.append_nil] at e
  have q := List.all_takeWhile (p := p) (l := l)
  rw [e] at q
  exact List.all_eq_true.mp q
/-- a text of digits is read as a number -/
theorem digits_read {z : Str} (h0 : ¬ z = "") (h1 : ¬ 10 < z.length) (h2 : ¬ run isDigit z.cps.toList 0 < z.length) : PySem.intText? z = some ((NumText.digitsVal z.cps.toList : Nat) : Int) := by
  refine intText_digits (fun c hc => ?_) (fun q => h0 (TL.ext_tl q)) (by omega)
  have := run_all (by rw [← len_cps]; exact h2) c hc
  unfold isDigit at this
  simp only [Bool.and_eq_true, decide_eq_true_eq] at this
  exact this
theorem digits_small {z : Str} (h1 : ¬ 10 < z.length) (h2 : ¬ run isDigit z.cps.toList 0 < z.length) : NumText.digitsVal z.cps.toList < 10 ^ 10 := by
  have ha := run_all (by rw [← len_cps]; exact h2)
  have q : ∀ (l : List Nat) (a : Nat), (∀ c ∈ l, isDigit c = true) → l.foldl (fun acc c => acc * 10 + (c - 48)) a < (a + 1) * 10 ^ l.length := by
    intro l
    induction l with
    | nil => intro a _; simp
    | cons c r ih =>
      intro a h
      have hc := h c (List.mem_cons_self ..)
      unfold isDigit at hc
      simp only [Bool.and_eq_true, decide_eq_true_eq] at hc
      have i := ih (a * 10 + (c - 48)) fun d hd => h d (List.mem_cons_of_mem _ hd)
      rw [List.foldl_cons, List.length_cons, Nat.pow_succ]
      refine Nat.lt_of_lt_of_le i ?_
      have : (a * 10 + (c - 48) + 1) ≤ (a + 1) * 10 := by omega
      calc (a * 10 + (c - 48) + 1) * 10 ^ r.length ≤ (a + 1) * 10 * 10 ^ r.length := Nat.mul_le_mul_right _ this
        _ = (a + 1) * (10 ^ r.length * 10) := by rw [Nat.mul_assoc, Nat.mul_comm 10]
  have := q z.cps.toList 0 ha
  unfold NumText.digitsVal
  refine Nat.lt_of_lt_of_le this ?_
  rw [Nat.zero_add, Nat.one_mul]
  exact Nat.pow_le_pow_right (by decide) (by rw [← len_cps]; omega)
theorem log_small {n : Nat} (h : n < 10 ^ 10) : ((n : Nat) : Int).natAbs.log2 < 1920 := by
  rw [Int.natAbs_natCast]
  by_cases e : n = 0
  · rw [e]; decide
  · rw [Nat.log2_lt e]
    refine Nat.lt_of_lt_of_le h ?_
    have : (10 ^ 10 : Nat) ≤ 2 ^ 64 := by decide
    exact Nat.le_trans this (Nat.pow_le_pow_right (by decide) (by decide))
theorem ok_is_number {f : Addr} {fd : FuncData} (F : Fun K "is_number" "is_number" s_is_number f fd) (T : Txt K mg) (TC : CodTxt K w mg) {f_run_end : Addr} {d_run_end : FuncData} (c_run_end : Cal P w K mg base 1 "run_end" ["text", "at", "letters"] spRun f_run_end d_run_end) : FnOk P w K mg base CX0 2 f fd ["word"] spNum := by
  refine F.ok sc_is_number (fun vs H Q E h => ?_) (fun cdv A outer s H vs Q E hr h => ?_)
  · obtain ⟨z, rfl, _⟩ := h
    rfl
  · obtain ⟨z, rfl, hz, k⟩ := h
    obtain ⟨t1, m_DIGITS⟩ := TC.mDIG
    obtain ⟨t2, m_MODULUS⟩ := TC.mMOD
    obtain ⟨t3, m_MOST_DIGITS⟩ := TC.mMOS
    refine ⟨_, (pss_cons (ps_if (PW.pt (pw_or (pt_cmpR op_eq (pv 0) pe_str (nomark _)) (pw_or (pt_cmpR op_gt (pe_callB call_len_str (by rfl) T.len PySem.boot_len (pa_cons (pv 0) pa_nil)) (pe_glob rfl m_MOST_DIGITS relI) (nomark _)) (pw_or1 (pt_cmpR op_lt (pe_call c_run_end.G (hr.mono (by decide)) (by rfl) c_run_end.m c_run_end.k c_run_end.b .nil pass0 (pa_cons (pv 0) (pa_cons pe_int (pa_cons (pe_glob rfl m_DIGITS relS) pa_nil)))) (pe_callB call_len_str (by rfl) T.len PySem.boot_len (pa_cons (pv 0) pa_nil)) (nomark _)))))) (pss_one (ps_ret pe_bl)) pss_nil)
      (pss_one (ps_ret (pe_and (pe_cmpR op_eq (pv 0) (pe_callTy call_str_int (by rfl) T.str (by decide +kernel) (pa_cons (pe_callTy call_int_str (by rfl) T.int (by decide +kernel) (pa_cons (pv 0) pa_nil)) pa_nil)) (nomark _)) (pe_one (pe_cmpR op_lt (pe_callTy call_int_str (by rfl) T.int (by decide +kernel) (pa_cons (pv 0) pa_nil)) (pe_glob rfl m_MODULUS relI) (nomark _))))))), ?_⟩
    unfold numOf at k
    refine ⟨_, rfl, rfl, _, rfl, ?_⟩
    have e0 : decide (V.str z = V.str (Str.ofString "")) = decide (z = "") := decide_eq_decide.mpr ⟨fun q => by injection q, fun q => by rw [q]⟩
    rw [e0]
    by_cases c0 : z = ""
    · rw [if_pos (.inl c0)] at k
      rw [decide_eq_true c0]
      exact iteT (iteT k)
    rw [decide_eq_false c0]
    refine iteF ⟨_, rfl, z, rfl, sz6 hz, _, _, rfl, rfl, _, rfl, ?_⟩
    by_cases c1 : 10 < z.length
    · rw [if_pos (.inr (.inl c1))] at k
      rw [decide_eq_true (show (10 : Int) < (z.length : Int) by omega)]
      exact iteT (iteT k)
    rw [decide_eq_false (show ¬ (10 : Int) < (z.length : Int) by omega)]
    refine iteF ⟨_, rfl, z, zDIG, 0, rfl, hz, Nat.zero_le _, ?_⟩
    rw [run_congr inS_DIG]
    refine ⟨_, rfl, z, rfl, sz6 hz, _, _, rfl, rfl, _, rfl, ?_⟩
    by_cases c2 : run isDigit z.cps.toList 0 < z.length
    · rw [if_pos (.inr (.inr c2))] at k
      rw [decide_eq_true (show ((run isDigit z.cps.toList 0 : Nat) : Int) < (z.length : Int) by omega)]
      exact iteT k
    rw [decide_eq_false (show ¬ ((run isDigit z.cps.toList 0 : Nat) : Int) < (z.length : Int) by omega)]
    have hrd := digits_read c0 c1 c2
    have hsm := digits_small c1 c2
    refine iteF ⟨_, rfl, _, rfl, z, _, rfl, hrd, by omega, _, rfl, log_small hsm, rfl, ?_⟩
    rw [if_neg (show ¬ (z = "" ∨ 10 < z.length ∨ run isDigit z.cps.toList 0 < z.length) from fun q => q.elim c0 fun q => q.elim c1 c2)] at k
    generalize NumText.digitsVal z.cps.toList = n at k hrd
    have e1 : decide (V.str z = V.str (Str.ofString (toString (n : Int)))) = decide (z = natS n) := decide_eq_decide.mpr ⟨fun q => by injection q, fun q => by rw [q]; rfl⟩
    rw [e1]
    by_cases c3 : z = natS n
    · rw [decide_eq_true c3]
      refine ⟨_, rfl, iteT ⟨_, rfl, z, _, rfl, hrd, by omega, _, _, rfl, rfl, ?_⟩⟩
      by_cases c4 : n < 4294967296
      · rw [if_pos ⟨c3, c4⟩] at k
        show Q (.bl (decide ((n : Int) < 4294967296))) H
        rw [decide_eq_true (show (n : Int) < 4294967296 by omega)]
        exact k
      · rw [if_neg (fun q => c4 q.2)] at k
        show Q (.bl (decide ((n : Int) < 4294967296))) H
        rw [decide_eq_false (show ¬ (n : Int) < 4294967296 by omega)]
        exact k
    · rw [decide_eq_false c3]
      rw [if_neg (fun q => c3 q.1)] at k
      exact ⟨_, rfl, iteF k⟩
end
end OS

namespace OS
open PySem PySem.Spec PyProof.Rows L2
theorem inV_str (x : Str) : ∀ (cs : List Str), inV (.str x) (cs.map V.str) = decide (x ∈ cs)
  | [] => by simp [inV]
  | c :: cs => by
    have ih := inV_str x cs
    unfold inV at ih ⊢
    rw [List.map_cons, List.any_cons, ih]
    have e : eqV (.str c) (.str x) = decide (c = x) := by
      show (c == x) = _
      by_cases h : c = x
      · rw [decide_eq_true h]; exact beq_iff_eq.mpr h
      · rw [decide_eq_false h]; exact beq_eq_false_iff_ne.mpr h
    rw [e]
    by_cases h : c = x
    · subst h; simp
    · rw [decide_eq_false h, Bool.false_or]
      refine decide_eq_decide.mpr ⟨fun q => List.mem_cons_of_mem _ q, fun q => ?_⟩
      rcases List.mem_cons.mp q with q | q
      · exact absurd q.symm h
      · exact q
section
variable {P : Program} {w : World} {K : PySem.W.Frag} {mg : Str → Option Value} {base : Heap}
def optV : Option Pt → V | none => .non | some p => p.v
def spPart : Sp := fun vs H Q _ => ∃ s z : Str, vs = [.str s, .str z] ∧ z.length ≤ 100000 ∧ ∀ H', Same H H' → Q (optV (readPt s z)) H'
theorem ok_read_part {f : Addr} {fd : FuncData} (F : Fun K "read_part" "read_part" s_read_part f fd) (T : Txt K mg) (TC : CodTxt K w mg) {f_is_name : Addr} {d_is_name : FuncData} (c_is_name : Cal P w K mg base 2 "is_name" ["word"] spNm f_is_name d_is_name) {f_is_number : Addr} {d_is_number : FuncData} (c_is_number : Cal P w K mg base 2 "is_number" ["word"] spNum f_is_number d_is_number) : FnOk P w K mg base CX0 3 f fd ["sort", "word"] spPart := by
  refine F.ok sc_read_part (fun vs H Q E h => ?_) (fun cdv A outer s H vs Q E hr h => ?_)
  · obtain ⟨y, z, rfl, _⟩ := h
    rfl
  · obtain ⟨y, z, rfl, hz, k⟩ := h
    obtain ⟨aA, m_ANSWERS, hA⟩ := TC.mANS
    refine ⟨_, (pss_cons (ps_if (pt_cmpR op_in_seq (pv 0) (pe_tup (pa_cons pe_str (pa_cons pe_str pa_nil))) (by rfl)) (pss_one (ps_ret (pe_ifExp (pt_val (pe_call c_is_number.G (hr.mono (by decide)) (by rfl) c_is_number.m c_is_number.k c_is_number.b .nil pass0 (pa_cons (pv 1) pa_nil))) (pe_callTy call_int_str (by rfl) T.int (by decide +kernel) (pa_cons (pv 1) pa_nil)) pe_non))) pss_nil)
      (pss_cons (ps_if (pt_cmpR op_eq (pv 0) pe_str (nomark _)) (pss_one (ps_ret (pe_ifExp (pt_cmpR op_in_seq (pv 1) (pe_glob rfl m_ANSWERS relR) (by rfl)) (pv 1) pe_non))) pss_nil)
      (pss_one (ps_ret (pe_ifExp (pt_val (pe_call c_is_name.G (hr.mono (by decide)) (by rfl) c_is_name.m c_is_name.k c_is_name.b .nil pass0 (pa_cons (pv 1) pa_nil))) (pv 1) pe_non))))), ?_⟩
    refine ⟨_, rfl, by show 2 ≤ sizeLine; decide, fun p hp => ?_⟩
    have sm := same_upd (o := .tup [V.str "number", V.str "goal"]) hp
    refine ⟨p, _, rfl, .inr (SqT.of upd_same), rfl, rfl, _, rfl, ?_⟩
    have e1 : inV (.str y) [V.str "number", V.str "goal"] = decide (y = "number" ∨ y = "goal") := by
      have := inV_str y ["number", "goal"]
      refine this.trans (decide_eq_decide.mpr ?_)
      simp
    show if (inV (.str y) [V.str "number", V.str "goal"]) = true then _ else _
    rw [e1]
    unfold readPt at k
    by_cases c1 : y = "number" ∨ y = "goal"
    · rw [decide_eq_true c1]
      rw [if_pos c1] at k
      refine iteT ⟨_, rfl, z, rfl, hz, _, rfl, ?_⟩
      unfold numOf at k ⊢
      by_cases d0 : z = "" ∨ 10 < z.length ∨ run isDigit z.cps.toList 0 < z.length
      · rw [if_pos d0] at k ⊢
        exact iteF (k _ sm)
      · rw [if_neg d0] at k ⊢
        have c0 : ¬ z = "" := fun q => d0 (.inl q)
        have c1 : ¬ 10 < z.length := fun q => d0 (.inr (.inl q))
        have c2 : ¬ run isDigit z.cps.toList 0 < z.length := fun q => d0 (.inr (.inr q))
        have hrd := digits_read c0 c1 c2
        by_cases d1 : z = natS (NumText.digitsVal z.cps.toList) ∧ NumText.digitsVal z.cps.toList < 4294967296
        · rw [if_pos d1] at k ⊢
          exact iteT ⟨_, rfl, z, _, rfl, hrd, by omega, k _ sm⟩
        · rw [if_neg d1] at k ⊢
          exact iteF (k _ sm)
    rw [decide_eq_false c1]
    rw [if_neg c1] at k
    refine iteF ⟨_, rfl, rfl, _, rfl, ?_⟩
    have e2 : decide (V.str y = V.str (Str.ofString "answer")) = decide (y = "answer") := decide_eq_decide.mpr ⟨fun q => by injection q, fun q => by rw [q]⟩
    rw [e2]
    by_cases c2 : y = "answer"
    · rw [decide_eq_true c2]
      rw [if_pos c2] at k
      refine iteT ⟨_, rfl, aA, _, rfl, .inr (hA _), rfl, rfl, _, rfl, ?_⟩
      have e3 : inV (.str z) (ansL.map V.str) = decide (z = "yes" ∨ z = "no") := by
        refine (inV_str z ansL).trans (decide_eq_decide.mpr ?_)
        unfold ansL
        simp
      show if (inV (.str z) (ansL.map V.str)) = true then _ else _
      rw [e3]
      by_cases c3 : z = "yes" ∨ z = "no"
      · rw [decide_eq_true c3]
        rw [if_pos c3] at k
        exact iteT ⟨_, rfl, k _ sm⟩
      · rw [decide_eq_false c3]
        rw [if_neg c3] at k
        exact iteF (k _ sm)
    · rw [decide_eq_false c2]
      rw [if_neg c2] at k
      refine iteF ⟨_, rfl, z, rfl, hz, _, rfl, ?_⟩
      by_cases c3 : nameOk z = true
      · rw [if_pos c3] at k
        rw [c3]
        exact iteT ⟨_, rfl, k _ sm⟩
      · rw [if_neg c3] at k
        exact ite2 (fun q => absurd q c3) fun _ => k _ sm
end
end OS

namespace OS
open PySem PySem.Spec PyProof.Rows L2
theorem same_off {H H' : Hp} {D : Addr} {o : HO} (nD : H D = none) (s : Same H H') : Same H (upd H' D o) := fun b x e => by
  rw [upd_ne (ne_of_none e nD)]
  exact s b x e
theorem flat_opt (os : List (Option Pt)) : (os.map optV).all flatV = true := by
  rw [List.all_map, List.all_eq_true]
  intro o _
  cases o with
  | none => rfl
  | some p => cases p <;> rfl
theorem in_non : ∀ os : List (Option Pt), inV .non (os.map optV) = decide (none ∈ os)
  | [] => by simp [inV]
  | o :: os => by
    have ih := in_non os
    unfold inV at ih ⊢
    rw [List.map_cons, List.any_cons, ih]
    cases o with
    | none => simp [optV, eqV]
    | some p =>
      have e : eqV (optV (some p)) .non = false := by cases p <;> rfl
      rw [e, Bool.false_or]
      simp
theorem opt_some (ps : List Pt) : (ps.map some).map optV = ps.map Pt.v := by
  rw [List.map_map]
  rfl
section
variable {P : Program} {w : World} {K : PySem.W.Frag} {mg : Str → Option Value} {base : Heap}
def spParts (K : PySem.W.Frag) : Sp := fun vs H Q _ => ∃ (a b : Addr) (ss ws : List Str), vs = [.ref a, .ref b] ∧ SqT K H a (ss.map V.str) ∧ SqL K H b (ws.map V.str) ∧ ss.length ≤ 1000 ∧ (∀ z ∈ ws, z.length ≤ 100000) ∧
  (readPts ss ws = none → ∀ H', Same H H' → Q .non H') ∧ (∀ ps, readPts ss ws = some ps → ∀ p H', Same H H' → H p = none → H' p = some (.tup (ps.map Pt.v)) → Q (.ref p) H')
theorem ok_read_parts {f : Addr} {fd : FuncData} (F : Fun K "read_parts" "read_parts" s_read_parts f fd) (T : Txt K mg) {f_read_part : Addr} {d_read_part : FuncData} (c_read_part : Cal P w K mg base 3 "read_part" ["sort", "word"] spPart f_read_part d_read_part) : FnOk P w K mg base CX0 4 f fd ["sorts", "words"] (spParts K) := by
  refine F.ok sc_read_parts (fun vs H Q E h => ?_) (fun cdv A outer s H vs Q E hr h => ?_)
  · obtain ⟨a, b, ss, ws, rfl, _⟩ := h
    rfl
  · obtain ⟨a, b, ss, ws, rfl, ha, hb, hs, hz, k0, k1⟩ := h
    refine ⟨_, (pss_cons (ps_if (pt_cmpR op_ne (pe_callB call_len_seq (by rfl) T.len PySem.boot_len (pa_cons (pv 1) pa_nil)) (pe_callB call_len_seq (by rfl) T.len PySem.boot_len (pa_cons (pv 0) pa_nil)) (nomark _)) (pss_one (ps_ret pe_non)) pss_nil)
      (pss_cons (ps_setLc (i := 2) (own := [("sort", 3), ("word", 4)]) (g := gTup K 2 (gCons (gName 3) (gCons (gName 4) gNil))) (by rfl) sc_read_parts.nd rfl rfl (sw_true rfl rfl rfl (by decide +kernel)) (pi_zipM (by rfl) T.zip (pa_cons (pv 0) (pa_cons (pv 1) pa_nil))) (blkOk_by (N := ["sorts", "words", "parts", "sort", "word"]) (sc := defScope s_read_parts) (by decide +kernel)) (fun _ _ _ _ _ => pg_tup (by rfl) (pgs_cons (pg_name (i := 3) sc_read_parts.nd rfl (by first | exact Or.inl rfl | exact Or.inr rfl)) (pgs_cons (pg_name (i := 4) sc_read_parts.nd rfl (by first | exact Or.inl rfl | exact Or.inr rfl)) pgs_nil))) (fun _ _ _ _ _ => pts_nil) (fun _ _ _ _ _ => (pe_call c_read_part.G (hr.mono (by decide)) (by rfl) c_read_part.m c_read_part.k c_read_part.b .nil pass0 (pa_cons (pv 3) (pa_cons (pv 4) pa_nil)))))
      (pss_one (ps_ret (pe_ifExp (pt_cmpR op_in_seq pe_non (pv 2) (by rfl)) pe_non (pe_callTy call_tuple_of (by rfl) T.tuple (by decide +kernel) (pa_cons (pv 2) pa_nil))))))), ?_⟩
    refine ⟨_, rfl, b, _, rfl, .inl hb, _, rfl, a, _, rfl, .inr ha, rfl, _, rfl, ?_⟩
    rw [List.length_map, List.length_map]
    by_cases c0 : ws.length = ss.length
    · rw [decide_eq_true (show V.int (ws.length : Nat) = V.int (ss.length : Nat) by rw [c0])]
      refine iteF ⟨_, rfl, _, rfl, a, b, _, _, rfl, ha, hb, fun D nD => ?_⟩
      refine lc_zipM (K := K) (a := a) (b := b) (xs := ss.map V.str) (ys := ws.map V.str) (by rw [List.length_map, List.length_map, c0]) (fun i H' => H' D = some (.lst (((List.zipWith readPt ss ws).take i).map optV)) ∧ Same H H') ⟨upd_same, same_upd nD⟩ (fun i H' _ q => ⟨Same.tup (show Same H H' from q.2) ha, (show Same H H' from q.2).seq hb⟩) ?_ ?_
      · rintro i x y T' H' hx hy ⟨hD, sm⟩ nT
        obtain ⟨s1, e1, rfl⟩ : ∃ s1, ss[i]? = some s1 ∧ x = .str s1 := by
          rw [List.getElem?_map] at hx
          cases e : ss[i]? with
          | none => rw [e] at hx; cases hx
          | some q => rw [e] at hx; exact ⟨q, rfl, (Option.some.inj hx).symm⟩
        obtain ⟨w1, e2, rfl⟩ : ∃ w1, ws[i]? = some w1 ∧ y = .str w1 := by
          rw [List.getElem?_map] at hy
          cases e : ws[i]? with
          | none => rw [e] at hy; cases hy
          | some q => rw [e] at hy; exact ⟨q, rfl, (Option.some.inj hy).symm⟩
        have sT := same_upd (o := .tup [.str s1, .str w1]) nT
        refine ⟨T', _, rfl, SqT.of upd_same, rfl, _, _, rfl, _, _, rfl, rfl, rfl, iteT (B := True) ?_⟩
        refine ⟨_, rfl, _, rfl, s1, w1, rfl, hz w1 (List.mem_of_getElem? e2), fun H2 s2 => ?_⟩
        have hD2 := s2 _ _ (sT _ _ hD)
        refine ⟨_, hD2, ?_, ?_, same_off nD (sm.trans (sT.trans s2))⟩
        · rw [List.length_map, List.length_take, List.length_zipWith]
          exact sz6' (by omega)
        · rw [upd_same, List.take_add_one, List.getElem?_zipWith, e1, e2, List.map_append]
          rfl
      · rintro H' ⟨hD, sm⟩
        have el : (List.zipWith readPt ss ws).take (ss.map V.str).length = List.zipWith readPt ss ws := List.take_of_length_le (by rw [List.length_zipWith, List.length_map]; omega)
        rw [el] at hD
        unfold readPts at k0 k1
        rw [if_pos c0] at k0 k1
        refine ⟨_, rfl, D, _, rfl, .inl (SqL.of hD), rfl, flat_opt _, _, rfl, ?_⟩
        show if (inV .non ((List.zipWith readPt ss ws).map optV)) = true then _ else _
        rw [in_non]
        by_cases c1 : none ∈ List.zipWith readPt ss ws
        · rw [decide_eq_true c1]
          exact iteT (k0 (allS_mem c1) _ sm)
        · rw [decide_eq_false c1]
          cases e : allS (List.zipWith readPt ss ws) with
          | none => exact absurd (allS_none e) c1
          | some ps =>
            rw [allS_some e, opt_some] at hD
            refine iteF ⟨_, rfl, D, _, rfl, .inl ⟨SqL.of hD, fun t ht => ?_⟩⟩
            refine k1 ps e t _ (sm.trans (same_upd ht)) ?_ upd_same
            cases q : H t with
            | none => rfl
            | some o => rw [sm _ _ q] at ht; cases ht
    · rw [decide_eq_false (show ¬ V.int (ws.length : Nat) = V.int (ss.length : Nat) from fun q => c0 (by injection q with q; omega))]
      refine iteT ?_
      refine k0 ?_ H fun _ _ e => e
      unfold readPts
      exact if_neg c0
end
end OS

namespace OS
open PySem PySem.Spec PyProof.Rows L2
theorem u65 {k : Nat} {A : Around} (r : Room k A) : A.units + 65 < cLine := by have := r.un; omega
/-- a choice that was read, or none -/
def ChV (H : Hp) : Option (Str × Str × Nat) → V → Prop
  | none, v => v = .non
  | some c, v => ∃ p, v = .ref p ∧ H p = some (.tup [.str c.1, .str c.2.1, .int (c.2.2 : Nat)])
def ChA (H : Hp) : List (Option (Str × Str × Nat)) → List V → Prop
  | [], vs => vs = []
  | o :: os, vs => ∃ v r, vs = v :: r ∧ ChV H o v ∧ ChA H os r
def KpT (H H' : Hp) : Prop := ∀ b xs, H b = some (.tup xs) → H' b = some (.tup xs)
theorem KpT.of {H H' : Hp} (s : Same H H') : KpT H H' := fun b xs e => s b _ e
theorem ChV.keep {H H' : Hp} (k : KpT H H') : ∀ {o : Option (Str × Str × Nat)} {v : V}, ChV H o v → ChV H' o v
  | none, _, h => h
  | some _, _, ⟨p, e, h⟩ => ⟨p, e, k _ _ h⟩
theorem ChA.keep {H H' : Hp} (k : KpT H H') : ∀ {os : List (Option (Str × Str × Nat))} {vs : List V}, ChA H os vs → ChA H' os vs
  | [], _, h => h
  | _ :: _, _, ⟨v, r, e, h1, h2⟩ => ⟨v, r, e, h1.keep k, h2.keep k⟩
theorem ChA.length {H : Hp} : ∀ {os : List (Option (Str × Str × Nat))} {vs : List V}, ChA H os vs → vs.length = os.length
  | [], vs, h => by
    rw [show vs = [] from h]
    rfl
  | _ :: _, _, ⟨v, r, e, _, h⟩ => by rw [e, List.length_cons, List.length_cons, h.length]
theorem ChA.snoc {H : Hp} {o : Option (Str × Str × Nat)} {v : V} (hv : ChV H o v) : ∀ {os : List (Option (Str × Str × Nat))} {vs : List V}, ChA H os vs → ChA H (os ++ [o]) (vs ++ [v])
  | [], vs, h => by
    rw [show vs = [] from h]
    exact ⟨v, [], rfl, hv, rfl⟩
  | _ :: _, _, ⟨u, r, e, h1, h2⟩ => by
    rw [e]
    exact ⟨u, _, rfl, h1, ChA.snoc hv h2⟩
def chP : Option (Str × Str × Nat) → PyData
  | none => .none
  | some c => .tuple [.str c.1, .str c.2.1, .int (c.2.2 : Nat)]
theorem ChA.dp {K : PySem.W.Frag} {H : Hp} : ∀ {os : List (Option (Str × Str × Nat))} {vs : List V}, ChA H os vs → DpAll K H vs (os.map chP)
  | [], vs, h => by
    rw [show vs = [] from h]
    exact .nil
  | none :: _, _, ⟨v, r, e, h1, h2⟩ => by
    rw [e, show v = V.non from h1]
    exact .cons .non h2.dp
  | some c :: _, _, ⟨v, r, e, ⟨p, e1, h1⟩, h2⟩ => by
    rw [e, e1]
    exact .cons (.tup (SqT.of h1) (.cons (.str _) (.cons (.str _) (.cons (.int _) .nil)))) h2.dp
theorem ChA.dt {K : PySem.W.Frag} {H : Hp} : ∀ {cs : List (Str × Str × Nat)} {vs : List V}, ChA H (cs.map some) vs → AtL K H (cs.map chD) vs
  | [], vs, h => by
    rw [show vs = [] from h]
    unfold AtL
    rfl
  | c :: cs, _, ⟨v, r, e, ⟨p, e1, h1⟩, h2⟩ => by
    rw [e, e1, List.map_cons]
    unfold AtL
    refine ⟨_, _, rfl, ?_, ChA.dt h2⟩
    simp only [chD, At, AtL]
    exact ⟨p, _, rfl, h1, _, _, rfl, rfl, _, _, rfl, rfl, _, _, rfl, rfl, rfl⟩
theorem nameOk_low {z : Str} (h : nameOk z = true) : PyData.strOk z = true := by
  unfold nameOk at h
  rw [Bool.and_eq_true] at h
  have h2 := of_decide_eq_true h.2
  have q := run_all (p := isName) (l := z.cps.toList) (by rw [h2, len_cps]; omega)
  unfold PyData.strOk
  rw [← Array.all_toList, List.all_eq_true]
  intro c hc
  have := q c hc
  unfold isName isLetter isDigit at this
  simp only [Bool.or_eq_true, Bool.and_eq_true, decide_eq_true_eq, beq_iff_eq] at this
  refine decide_eq_true ?_
  omega
theorem read3_low {ws : List Str} {c : Str × Str × Nat} (h : read3 ws = some c) : PyData.strOk c.1 = true ∧ PyData.strOk c.2.1 = true := by
  unfold read3 at h
  split at h
  · split at h
    · rename_i a b z q
      cases e : numOf z with
      | none => rw [e] at h; cases h
      | some n =>
        rw [e] at h
        cases h
        exact ⟨nameOk_low q.1, nameOk_low q.2⟩
    · cases h
  · cases h
theorem chP_lay (ws : List Str) : ((chP (read3 ws)).canLay0 = true) ∧ (chP (read3 ws)).depth ≤ 1 := by
  cases e : read3 ws with
  | none => exact ⟨rfl, Nat.zero_le _⟩
  | some c =>
    obtain ⟨h1, h2⟩ := read3_low e
    refine ⟨?_, ?_⟩
    · simp only [chP, PyData.canLay0, PyData.canLayAll0, h1, h2]
      rfl
    · simp [chP, PyData.depth, PyData.depthAll]
theorem chs_shaped (f : Nat → List Str) (l : List Nat) : SeqAt.shaped (.list ((l.map fun k => read3 (f k)).map chP)) = true := by
  have q : ∀ l : List Nat, PyData.canLayAll0 ((l.map fun k => read3 (f k)).map chP) = true ∧ PyData.depthAll ((l.map fun k => read3 (f k)).map chP) ≤ 1 := by
    intro l
    induction l with
    | nil => exact ⟨rfl, Nat.zero_le _⟩
    | cons k l ih =>
      have h := chP_lay (f k)
      refine ⟨?_, ?_⟩
      · simp only [List.map_cons, PyData.canLayAll0, h.1, ih.1]
        rfl
      · simp only [List.map_cons, PyData.depthAll]
        omega
  have h := q l
  unfold SeqAt.shaped
  simp only [PyData.canLay0, PyData.depth, h.1, Bool.true_and]
  exact decide_eq_true (by omega)
theorem any_non (os : List (Option (Str × Str × Nat))) : ((os.map chP).any fun z => PyData.eqv z .none) = decide (none ∈ os) := by
  induction os with
  | nil => rfl
  | cons o os ih =>
    rw [List.map_cons, List.any_cons, ih]
    cases o with
    | none => simp [chP, PyData.eqv]
    | some c =>
      have e : PyData.eqv (chP (some c)) .none = false := by simp [chP, PyData.eqv]
      rw [e, Bool.false_or]
      simp
theorem cut3 (ws : List Str) (k : Nat) (hk : 1 + 3 * k ≤ ws.length) : cutV (ws.map V.str) (some (1 + (k : Int) * 3)) (some (1 + (k : Int) * 3 + 3)) = (chunk ws k).map V.str := by
  unfold cutV chunk
  rw [show (1 + (k : Int) * 3) = ((1 + 3 * k : Nat) : Int) by omega, show (((1 + 3 * k : Nat) : Int) + 3) = ((1 + 3 * k + 3 : Nat) : Int) by omega, HT.sIx_nat, HT.sIx_nat, List.length_map, Nat.min_eq_left hk, List.map_take, List.map_drop]
  by_cases h : 1 + 3 * k + 3 ≤ ws.length
  · rw [Nat.min_eq_left h, show 1 + 3 * k + 3 - (1 + 3 * k) = 3 by omega]
  · rw [Nat.min_eq_right (by omega)]
    have l : ((ws.map V.str).drop (1 + 3 * k)).length = ws.length - (1 + 3 * k) := by rw [List.length_drop, List.length_map]
    rw [List.take_of_length_le (by omega), List.take_of_length_le (by omega)]
section
variable {P : Program} {w : World} {K : PySem.W.Frag} {mg : Str → Option Value} {base : Heap}
def spIns (K : PySem.W.Frag) (o : Option Ins) (H : Hp) (Q : VK) : Prop := (o = none → ∀ H', Same H H' → Q .non H') ∧ ∀ a, o = some a → ∀ v H', Same H H' → At K H' a.dt v → Q v H'
def spWait (K : PySem.W.Frag) : Sp := fun vs H Q _ => ∃ (b : Addr) (ws : List Str), vs = [.ref b] ∧ SqL K H b (ws.map V.str) ∧ ws.length ≤ 90000 ∧ (∀ z ∈ ws, z.length ≤ 90000) ∧ spIns K (readWt ws) H Q
theorem ok_read_wait {f : Addr} {fd : FuncData} (F : Fun K "read_wait" "read_wait" s_read_wait f fd) (T : Txt K mg) {f_is_name : Addr} {d_is_name : FuncData} (c_is_name : Cal P w K mg base 2 "is_name" ["word"] spNm f_is_name d_is_name) {f_read_parts : Addr} {d_read_parts : FuncData} (c_read_parts : Cal P w K mg base 4 "read_parts" ["sorts", "words"] (spParts K) f_read_parts d_read_parts) : FnOk P w K mg base CX0 5 f fd ["words"] (spWait K) := by
  refine F.ok sc_read_wait (fun vs H Q E h => ?_) (fun cdv A outer s H vs Q E hr h => ?_)
  · obtain ⟨b, ws, rfl, _⟩ := h
    rfl
  · obtain ⟨b, ws, rfl, hb, hw, hz, k⟩ := h
    refine ⟨_, (pss_cons (ps_if (pt_cmpR op_lt (pe_callB call_len_seq (by rfl) T.len PySem.boot_len (pa_cons (pv 0) pa_nil)) pe_int (nomark _)) (pss_one (ps_ret pe_non)) pss_nil)
      (pss_cons (ps_setLc (i := 1) (own := [("at", 2)]) (g := gName 2) (by rfl) sc_read_wait.nd rfl rfl (sw_true rfl rfl rfl (by decide +kernel)) (pi_range3 (by rfl) T.range (pa_cons pe_int (pa_cons (pe_callB call_len_seq (by rfl) T.len PySem.boot_len (pa_cons (pv 0) pa_nil)) (pa_cons pe_int pa_nil)))) (blkOk_by (N := ["words", "choices", "at"]) (sc := defScope s_read_wait) (by decide +kernel)) (fun _ _ _ _ _ => pg_name (i := 2) sc_read_wait.nd rfl (by first | exact Or.inl rfl | exact Or.inr rfl)) (fun _ _ _ _ _ => pts_nil) (fun _ _ _ _ _ => (pe_call c_read_parts.G (hr.mono (by decide)) (by rfl) c_read_parts.m c_read_parts.k c_read_parts.b .nil pass0 (pa_cons (pe_tup (pa_cons pe_str (pa_cons pe_str (pa_cons pe_str pa_nil)))) (pa_cons (pe_slice (show SlR _ (rSlL K) from sl_list) (pv 0) (po_some (pv 2)) (po_some (pe_op op_add (pv 2) pe_int))) pa_nil)))))
      (pss_cons (ps_if (PW.pt (pw_or (pt_cmpR (op_inD (by exact u65 hr)) pe_non (pv 1) (by rfl)) (pw_or1 (pt_not (pt_val (pe_call c_is_name.G (hr.mono (by decide)) (by rfl) c_is_name.m c_is_name.k c_is_name.b .nil pass0 (pa_cons (pe_ix ix_list (pv 0) pe_int (fun _ _ => rfl)) pa_nil))))))) (pss_one (ps_ret pe_non)) pss_nil)
      (pss_one (ps_ret (pe_tup (pa_cons pe_str (pa_cons (pe_ix ix_list (pv 0) pe_int (fun _ _ => rfl)) (pa_cons (pe_callTy call_tuple_of (by rfl) T.tuple (by decide +kernel) (pa_cons (pv 1) pa_nil)) pa_nil))))))))), ?_⟩
    refine ⟨_, rfl, b, _, rfl, .inl hb, _, _, rfl, rfl, _, rfl, ?_⟩
    rw [List.length_map]
    unfold readWt at k
    by_cases c0 : ws.length < 4
    · rw [if_pos c0] at k
      rw [decide_eq_true (show (ws.length : Int) < 4 by omega)]
      exact iteT (k.1 rfl _ fun _ _ e => e)
    rw [if_neg c0] at k
    rw [decide_eq_false (show ¬ (ws.length : Int) < 4 by omega)]
    obtain ⟨w0, r0, rfl⟩ : ∃ w0 r0, ws = w0 :: r0 := by
      cases ws with
      | nil => exact absurd (by decide) c0
      | cons x r => exact ⟨x, r, rfl⟩
    have hn : nch (w0 :: r0) * 3 ≤ (w0 :: r0).length + 1 := by unfold nch; omega
    refine iteF ⟨_, rfl, b, _, rfl, .inl hb, 1, _, 3, nch (w0 :: r0), rfl, ?_, fun D nD => ?_⟩
    · rw [List.length_map]
      refine ⟨by decide, by decide, ?_, ?_⟩
      · have hw : (w0 :: r0).length ≤ 90000 := hw
        have e : Builtin.Range.rangeSize 1 ((w0 :: r0).length : Nat) 3 = ((nch (w0 :: r0) : Nat) : Int) := by
          unfold Builtin.Range.rangeSize nch
          rw [if_pos (by decide)]
          split <;> omega
        have n0 : nch (w0 :: r0) ≤ 90000 := by unfold nch; omega
        unfold Builtin.Range.small
        rw [e, if_pos (by decide)]
        unfold Builtin.Range.rangeFitsLong
        simp only [Bool.and_eq_true, Bool.or_eq_true, decide_eq_true_eq]
        omega
      · unfold Builtin.Range.rangeSize nch
        rw [if_pos (by decide)]
        split <;> omega
    refine lc_it (walk_rangeC (lo := 1) (c := 3) (n := nch (w0 :: r0))) (fun i H' => ∃ acc, H' D = some (.lst acc) ∧ ChA H' ((List.range i).map fun k => read3 (chunk (w0 :: r0) k)) acc ∧ Same H H') ⟨[], upd_same, rfl, same_upd nD⟩ (fun _ _ _ _ => trivial) ?_ ?_
    · rintro i x H1 H' hi ⟨acc, hD, hc, sm⟩ ⟨rfl, rfl⟩
      refine ⟨rfl, iteT (B := True) ?_⟩
      refine ⟨by show 3 ≤ sizeLine; decide, fun t ht => ?_⟩
      have s1 := same_upd (o := .tup [V.str "name", V.str "name", V.str "goal"]) ht
      have hb1 : SqL K _ b ((w0 :: r0).map V.str) := Same.seq (Same.trans sm s1) hb
      refine ⟨_, rfl, _, rfl, _, rfl, _, rfl, _, _, rfl, rfl, _, rfl, b, _, rfl, hb1, fun y hy => ?_⟩
      rw [cut3 (w0 :: r0) i (by omega)]
      have s2 := same_upd (o := .lst ((chunk (w0 :: r0) i).map V.str)) hy
      have sm2 : Same H' _ := Same.trans s1 s2
      have smA : Same H _ := Same.trans sm sm2
      have hD2 := sm2 _ _ hD
      have hc2 := ChA.keep (KpT.of sm2) hc
      have lc := hc.length
      rw [List.length_map, List.length_range] at lc
      have nxt : ∀ (o : Option (Str × Str × Nat)) (v : V) (H3 : Hp), read3 (chunk (w0 :: r0) i) = o → Same (upd (upd H' t (.tup [V.str "name", V.str "name", V.str "goal"])) y (.lst ((chunk (w0 :: r0) i).map V.str))) H3 → ChV H3 o v →
          ∃ acc, H3 D = some (.lst acc) ∧ acc.length < sizeLine ∧ ∃ acc', upd H3 D (.lst (acc ++ [v])) D = some (.lst acc') ∧ ChA (upd H3 D (.lst (acc ++ [v]))) ((List.range (i + 1)).map fun k => read3 (chunk (w0 :: r0) k)) acc' ∧ Same H (upd H3 D (.lst (acc ++ [v]))) := by
        intro o v H3 eo s3 hv
        have hD3 := s3 _ _ hD2
        have tk : KpT H3 (upd H3 D (.lst (acc ++ [v]))) := fun b xs e => by
          rw [upd_ne (ne_of e hD3 (by intro z; cases z))]
          exact e
        refine ⟨acc, hD3, by rw [lc]; exact sz6' (by unfold nch at hi; omega), acc ++ [v], upd_same, ?_, same_off nD (Same.trans smA s3)⟩
        rw [List.range_succ, List.map_append]
        refine ChA.snoc (o := read3 (chunk (w0 :: r0) i)) ?_ ?_
        · rw [eo]; exact hv.keep tk
        · exact ChA.keep tk (ChA.keep (KpT.of s3) hc2)
      refine ⟨t, y, s3, chunk (w0 :: r0) i, rfl, SqT.of (s2 _ _ upd_same), SqL.of upd_same, by decide, fun z hz' => ?_, fun e H3 s3' => ?_, fun ps e p H3 s3' _ hp3 => ?_⟩
      · have := hz z (List.mem_of_mem_drop (List.mem_of_mem_take hz'))
        omega
      · rw [read3_pts] at e
        cases e3 : read3 (chunk (w0 :: r0) i) with
        | none => exact nxt none .non H3 e3 s3' rfl
        | some c => rw [e3] at e; cases e
      · rw [read3_pts] at e
        cases e3 : read3 (chunk (w0 :: r0) i) with
        | none => rw [e3] at e; cases e
        | some c =>
          rw [e3] at e
          cases e
          exact nxt (some c) (.ref p) H3 e3 s3' ⟨p, rfl, hp3⟩
    · rintro H1 ⟨acc, hD, hc, sm⟩
      have shp := chs_shaped (fun k => chunk (w0 :: r0) k) (List.range (nch (w0 :: r0)))
      refine ⟨_, rfl, .none, _, .non, .lst (SqL.of hD) hc.dp, rfl, shp, _, rfl, ?_⟩
      rw [any_non]
      by_cases c1 : none ∈ (List.range (nch (w0 :: r0))).map fun k => read3 (chunk (w0 :: r0) k)
      · rw [decide_eq_true c1]
        rw [allS_mem c1] at k
        exact iteT (iteT (k.1 rfl _ sm))
      rw [decide_eq_false c1]
      cases e : allS ((List.range (nch (w0 :: r0))).map fun k => read3 (chunk (w0 :: r0) k)) with
      | none => exact absurd (allS_none e) c1
      | some cs =>
        rw [e] at k
        have k : spIns K (if nameOk w0 = true then some (Ins.wt w0 cs) else none) H Q := k
        rw [allS_some e] at hc
        have hb1 : SqL K H1 b ((w0 :: r0).map V.str) := Same.seq sm hb
        refine iteF ⟨_, rfl, b, _, _, _, rfl, rfl, hb1, atI_nat (j := 0) rfl, w0, rfl, ?_, _, rfl, ?_⟩
        · have := hz w0 (List.mem_cons_self ..)
          omega
        by_cases c2 : nameOk w0 = true
        · rw [c2]
          rw [if_pos c2] at k
          refine iteF ⟨_, rfl, b, _, _, _, rfl, rfl, hb1, atI_nat (j := 0) rfl, _, rfl, D, acc, rfl, .inl ⟨SqL.of hD, fun t ht => ⟨by show 3 ≤ sizeLine; decide, fun q hq => ?_⟩⟩⟩
          have s1 := same_upd (o := .tup acc) ht
          have s2 := same_upd (o := .tup [V.str "wait", V.str w0, V.ref t]) hq
          refine k.2 _ rfl _ _ (Same.trans sm (Same.trans s1 s2)) ?_
          show At K _ (.tup [.str "wait", .str w0, .tup (cs.map chD)]) _
          simp only [At, AtL]
          exact ⟨q, _, rfl, upd_same, _, _, rfl, rfl, _, _, rfl, rfl, _, _, rfl, ⟨t, acc, rfl, s2 _ _ upd_same, AtL.keep s2 (AtL.keep s1 (ChA.dt hc))⟩, rfl⟩
        · rw [Bool.eq_false_iff.mpr c2]
          rw [if_neg c2] at k
          exact iteT (k.1 rfl _ sm)
end
end OS

namespace OS
open PySem PySem.Spec PyProof.Rows L2
theorem sum_mem {x : Nat} : ∀ {l : List Nat}, x ∈ l → x ≤ l.sum
  | y :: l, h => by
    rw [List.sum_cons]
    rcases List.mem_cons.mp h with h | h
    · omega
    · have := sum_mem h
      omega
theorem split_size (z : Str) : ((Txt.split z " ").map (·.length)).sum + (Txt.split z " ").length ≤ z.length + 1 := by
  have h := joinL_len 32 ((Txt.split z " ").map TL.tl)
  rw [List.map_map, List.length_map] at h
  have e := TL.tl_join (Str.ofString " ") (Txt.split z " ")
  have j := join_split z
  have e2 : (TL.joinL [32] ((Txt.split z " ").map TL.tl)).length = z.length := by
    rw [← tl_sp, ← e, ← TL.len_tl, ← TL.join_eq]
    exact congrArg Str.length j
  rw [e2] at h
  have e3 : ((Txt.split z " ").map (·.length)) = (Txt.split z " ").map ((fun x => x.length) ∘ TL.tl) := List.map_congr_left fun x _ => TL.len_tl x
  rw [e3]
  exact h
theorem split_mem {z x : Str} (h : x ∈ Txt.split z " ") : x.length ≤ z.length := by
  have h1 := split_size z
  have h2 := sum_mem (List.mem_map.mpr ⟨x, h, rfl⟩ : x.length ∈ (Txt.split z " ").map (·.length))
  have h3 : 1 ≤ (Txt.split z " ").length := List.length_pos_of_mem h
  omega
theorem cut1 (w0 : Str) (r : List Str) : cutV ((w0 :: r).map V.str) (some 1) none = r.map V.str := by
  unfold cutV
  rw [show (1 : Int) = ((1 : Nat) : Int) from rfl, HT.sIx_nat, HT.sIx_none]
  have e : min 1 ((w0 :: r).map V.str).length = 1 := by rw [List.length_map, List.length_cons]; omega
  rw [e, List.map_cons, List.drop_succ_cons, List.drop_zero, List.take_of_length_le]
  rw [List.length_cons]
  omega
theorem pts_dt {K : PySem.W.Frag} {H : Hp} : ∀ ps : List Pt, AtL K H (ps.map Pt.dt) (ps.map Pt.v)
  | [] => by simp [AtL]
  | p :: ps => by
    rw [List.map_cons, List.map_cons]
    unfold AtL
    refine ⟨_, _, rfl, ?_, pts_dt ps⟩
    cases p <;> simp [Pt.dt, Pt.v, At]
section
variable {P : Program} {w : World} {K : PySem.W.Frag} {mg : Str → Option Value} {base : Heap}
theorem spIns.mono {o : Option Ins} {H H' : Hp} {Q : VK} (k : spIns K o H Q) (s : Same H H') : spIns K o H' Q :=
  ⟨fun e _ s2 => k.1 e _ (Same.trans s s2), fun a e v _ s2 => k.2 a e v _ (Same.trans s s2)⟩
def spLine (K : PySem.W.Frag) : Sp := fun vs H Q _ => ∃ z : Str, vs = [.str z] ∧ z.length ≤ 80000 ∧ spIns K (readLn z) H Q
theorem ok_read_line {f : Addr} {fd : FuncData} (F : Fun K "read_line" "read_line" s_read_line f fd) (T : Txt K mg) (TC : CodTxt K w mg) {f_read_parts : Addr} {d_read_parts : FuncData} (c_read_parts : Cal P w K mg base 4 "read_parts" ["sorts", "words"] (spParts K) f_read_parts d_read_parts) {f_read_wait : Addr} {d_read_wait : FuncData} (c_read_wait : Cal P w K mg base 5 "read_wait" ["words"] (spWait K) f_read_wait d_read_wait) : FnOk P w K mg base CX0 6 f fd ["line"] (spLine K) := by
  refine F.ok sc_read_line (fun vs H Q E h => ?_) (fun cdv A outer s H vs Q E hr h => ?_)
  · obtain ⟨z, rfl, _⟩ := h
    rfl
  · obtain ⟨z, rfl, hz, k⟩ := h
    obtain ⟨dF, esF, nF, m_FORMS, hD, hno, hyes⟩ := TC.mFOR
    have hD_FORMS := hD
    refine ⟨_, (pss_cons (ps_set (i := 1) sc_read_line.nd rfl (.inl rfl) (pe_bm PySem.F.plainAttrs_str PySem.F.slot_str_split PySem.F.type_str_split mt_split (pv 0) (pa_cons pe_str pa_nil)))
      (pss_cons (ps_if (pt_cmpR op_eq (pe_ix ix_list (pv 1) pe_int (fun _ _ => rfl)) pe_str (nomark _)) (pss_one (ps_ret (pe_call c_read_wait.G (hr.mono (by decide)) (by rfl) c_read_wait.m c_read_wait.k c_read_wait.b .nil pass0 (pa_cons (pe_slice sl_list (pv 1) (po_some pe_int) po_none) pa_nil)))) pss_nil)
      (pss_cons (ps_set (i := 2) sc_read_line.nd rfl (.inl rfl) (pe_ifExp (pt_cmpR (op_in_kd hD_FORMS) (pe_ix ix_list (pv 1) pe_int (fun _ _ => rfl)) (pe_glob rfl m_FORMS relR) (by rfl)) (pe_call c_read_parts.G (hr.mono (by decide)) (by rfl) c_read_parts.m c_read_parts.k c_read_parts.b .nil pass0 (pa_cons (pe_ix ix_kdict (pe_glob rfl m_FORMS relR) (pe_ix ix_list (pv 1) pe_int (fun _ _ => rfl)) (fun _ _ => rfl)) (pa_cons (pe_slice sl_list (pv 1) (po_some pe_int) po_none) pa_nil))) pe_non))
      (pss_one (ps_ret (pe_ifExp (pt_cmpR op_isN (pv 2) pe_non (nomark _)) pe_non (pe_op op_catT (pe_tup (pa_cons (pe_ix ix_list (pv 1) pe_int (fun _ _ => rfl)) pa_nil)) (pv 2)))))))), ?_⟩
    refine ⟨_, rfl, rfl, z, _, rfl, rfl, by decide +kernel, Nat.le_trans (Nat.add_le_add_right hz 2) (by decide), fun p np => ?_⟩
    obtain ⟨w0, r0, ew⟩ := split_ne z
    have hsz := split_size z
    have ew' : Txt.split z (Str.ofString " ") = w0 :: r0 := ew
    have hk : readLn z = readWs (w0 :: r0) := by
      unfold readLn
      rw [ew]
    rw [hk] at k
    rw [ew] at hsz
    have hmem : ∀ x ∈ w0 :: r0, x.length ≤ z.length := fun x hx => split_mem (by rw [ew]; exact hx)
    rw [ew']
    have s0 := same_upd (o := .lst ((w0 :: r0).map V.str)) np
    have k := k.mono s0
    have hp : SqL K (upd H p (.lst ((w0 :: r0).map V.str))) p ((w0 :: r0).map V.str) := SqL.of upd_same
    generalize upd H p (.lst ((w0 :: r0).map V.str)) = H1 at k hp
    have hlr : r0.length ≤ z.length := by
      rw [List.length_cons] at hsz
      omega
    refine ⟨_, rfl, p, _, _, _, rfl, rfl, hp, atI_nat (j := 0) rfl, rfl, _, rfl, ?_⟩
    have e1 : decide (V.str w0 = V.str (Str.ofString "wait")) = decide (w0 = "wait") := decide_eq_decide.mpr ⟨fun q => by injection q, fun q => by rw [q]⟩
    rw [e1]
    have k : spIns K (if w0 = "wait" then readWt r0 else (formOf w0).bind fun ss => (readPts ss r0).map (Ins.pl w0)) H1 Q := k
    by_cases c0 : w0 = "wait"
    · rw [decide_eq_true c0]
      rw [if_pos c0] at k
      refine iteT ⟨_, rfl, _, rfl, p, _, rfl, hp, fun y hy => ?_⟩
      rw [cut1]
      exact ⟨y, r0, rfl, SqL.of upd_same, by omega, fun x hx => by have := hmem x (List.mem_cons_of_mem _ hx); omega, k.mono (same_upd hy)⟩
    rw [decide_eq_false c0]
    rw [if_neg c0] at k
    refine iteF ?_
    cases ef : formOf w0 with
    | none =>
      rw [ef] at k
      refine ⟨_, rfl, p, _, _, _, rfl, rfl, hp, atI_nat (j := 0) rfl, w0, none, rfl, rfl, hno w0 ef, _, rfl, ?_⟩
      refine iteF ⟨_, rfl, rfl, _, rfl, ?_⟩
      rw [decide_eq_true (rfl : V.non = V.non)]
      exact iteT (k.1 rfl _ fun _ _ e => e)
    | some ss =>
      rw [ef] at k
      obtain ⟨pf, hpf, hsq⟩ := hyes w0 ss ef
      have hss : ss.length ≤ 1000 := by
        have q : ∀ x ∈ forms, x.2.length ≤ 1000 := by decide +kernel
        unfold formOf at ef
        cases e : forms.find? fun p => decide (p.1 = w0) with
        | none => rw [e] at ef; cases ef
        | some x =>
          rw [e] at ef
          have ef : some x.2 = some ss := ef
          cases ef
          exact q x (List.mem_of_find?_eq_some e)
      have k : spIns K ((readPts ss r0).map (Ins.pl w0)) H1 Q := k
      refine ⟨_, rfl, p, _, _, _, rfl, rfl, hp, atI_nat (j := 0) rfl, w0, _, rfl, rfl, hpf, _, rfl, ?_⟩
      refine iteT ⟨_, rfl, p, _, _, _, rfl, rfl, hp, atI_nat (j := 0) rfl, dF, w0, V.ref pf, rfl, rfl, ⟨esF, nF, _, hD.at_, hD.lit, hpf, rfl⟩, _, rfl, _, rfl, p, _, rfl, hp, fun y hy => ?_⟩
      rw [cut1]
      have s1 := same_upd (o := .lst (r0.map V.str)) hy
      refine ⟨pf, y, ss, r0, rfl, hsq _, SqL.of upd_same, hss, fun x hx => by have := hmem x (List.mem_cons_of_mem _ hx); omega, fun e H3 s3 => ?_, fun ps e q H3 s3 nq hq => ?_⟩
      · refine ⟨_, rfl, rfl, _, rfl, ?_⟩
        rw [decide_eq_true (rfl : V.non = V.non)]
        refine iteT (k.1 ?_ _ (Same.trans s1 s3))
        rw [e]
        rfl
      · refine ⟨_, rfl, rfl, _, rfl, ?_⟩
        rw [decide_eq_false (show ¬ V.ref q = V.non from fun z => by cases z)]
        have hp3 : SqL K H3 p ((w0 :: r0).map V.str) := Same.seq (Same.trans s1 s3) hp
        refine iteF ⟨_, rfl, p, _, _, _, rfl, rfl, hp3, atI_nat (j := 0) rfl, by show 1 ≤ sizeLine; decide, fun t ht => ?_⟩
        have s4 := same_upd (o := .tup [V.str w0]) ht
        have hps : ps.map Pt.str = r0 := readPts_str e
        have hpl : ps.length = r0.length := by rw [← hps, List.length_map]
        have hq4 := s4 _ _ hq
        have fin : ∀ (u : Addr) (H5 : Hp), Same H3 H5 → H5 u = some (.tup (V.str w0 :: ps.map Pt.v)) → Q (.ref u) H5 := fun u H5 s5 hu5 => by
          refine k.2 (.pl w0 ps) (by rw [e]; rfl) _ _ (Same.trans s1 (Same.trans s3 s5)) ?_
          show At K H5 (.tup (.str w0 :: ps.map Pt.dt)) _
          simp only [At, AtL]
          exact ⟨u, _, rfl, hu5, _, _, rfl, rfl, pts_dt ps⟩
        refine ⟨_, rfl, t, q, _, _, rfl, rfl, SqT.of upd_same, SqT.of hq4, by simp, ?_, fun e0 => ?_, fun e0 u hu => ?_⟩
        · rw [List.length_map]
          refine Nat.le_trans (show 1 + ps.length ≤ 100000 by omega) (by decide)
        · refine fin t _ s4 ?_
          rw [e0]
          exact upd_same
        · exact fin u _ (Same.trans s4 (same_upd hu)) upd_same
end
end OS

namespace OS
open PySem PySem.Spec PyProof.Rows L2
/-! ### errors -/
structure CalX (P : Program) (w : World) (K : PySem.W.Frag) (mg : Str → Option Value) (base : Heap) (k : Nat) (x : Str) (ps : List Str) (sp : Sp) (f : Addr) (fd : FuncData) : Prop where
  G : FnOk P w K mg base (L2.CX P w) k f fd ps sp
  b : Binds K fd ps []
  k : PySem.W.keepIn K (.ref f) = true
  m : mg x = some (.ref f)
/-- an own error with one field -/
structure OCal (P : Program) (w : World) (K : PySem.W.Frag) (mg : Str → Option Value) (base : Heap) (C : Addr) (x fld : Str) (f : Addr) (fd : FuncData) : Prop where
  T : OexC K C
  iC : PySem.W.findIn K (.ref C) "__init__" = some (some (.ref f))
  tI : PySem.W.typeIn K (.ref f) = some (.type "function")
  G : FnOk P w K mg base CX0 1 f fd ["self", fld] (spExcI C fld)
  b : Binds K fd ["self", fld] []
  m : mg x = some (.ref C)
theorem passE {X : Cx} {E : XK} (tk : Takes X (fun cls d _ H => E cls d H)) : Passes (L2.CX X.prog X.w) X E := passes_call tk fun _ _ _ _ h => h
/-- the field of an error that is read -/
def xdF (H : Hp) (d : Option Addr) (fld : Str) (v : V) : Prop := ∃ a, d = some a ∧ H a = some (.xd [(fld, v)])
/-- what the making of such an error asks: that what follows holds of it -/
theorem mk_exc {C : Addr} {fld : Str} {v : V} {H : Hp} {Q : XK} (hq : ∀ (d : Addr) (H' : Hp), Same H H' → H d = none → xdF H' (some d) fld v → Q (.ref C) (some d) H') :
    [v].length ≤ 1000 ∧ ∀ a, H a = none → spExcI C fld (.ref a :: ([v] ++ [])) (upd H a (exo a C none)) (fun u H2 => u = .non ∧ ∃ (d : Addr) (fs : List (Str × V)), H2 a = some (exo a C (some d)) ∧ H2 d = some (exd d fs) ∧ H d = none ∧ Q (.ref C) (some d) (upd (del H2 a) d (.xd fs))) (fun _ _ _ => False) := by
  refine ⟨by show 1 ≤ 1000; decide, fun a ha => ⟨a, v, rfl, upd_same, fun dx hdx hne => ⟨rfl, dx, [(fld, v)], upd_same, ?_, ?_, ?_⟩⟩⟩
  · rw [upd_ne hne]
    exact upd_same
  · rw [upd_ne hne] at hdx
    exact hdx
  · rw [upd_ne hne] at hdx
    refine hq dx _ (fun b o e => ?_) hdx ⟨dx, rfl, upd_same⟩
    rw [upd_ne (ne_of_none e hdx), del_ne (ne_of_none e ha), upd_ne (ne_of_none e ha), upd_ne (ne_of_none e hdx), upd_ne (ne_of_none e ha)]
    exact e
mutual
/-- no list within -/
def tupO : Dt → Bool
  | .tup xs => tupOL xs
  | .lst _ => false
  | _ => true
def tupOL : List Dt → Bool
  | [] => true
  | d :: ds => tupO d && tupOL ds
end
mutual
theorem At.kpT {K : PySem.W.Frag} {H H' : Hp} (s : KpT H H') : ∀ {d : Dt} {v : V}, tupO d = true → At K H d v → At K H' d v
  | .non, v, _, h => by unfold At at h ⊢; exact h
  | .bl b, v, _, h => by unfold At at h ⊢; exact h
  | .int i, v, _, h => by unfold At at h ⊢; exact h
  | .str x, v, _, h => by unfold At at h ⊢; exact h
  | .tup xs, v, o, h => by
    unfold At at h ⊢
    obtain ⟨p, vs, e, hp, hl⟩ := h
    unfold tupO at o
    exact ⟨p, vs, e, s _ _ hp, AtL.kpT s o hl⟩
  | .lst xs, v, o, h => by cases o
theorem AtL.kpT {K : PySem.W.Frag} {H H' : Hp} (s : KpT H H') : ∀ {ds : List Dt} {vs : List V}, tupOL ds = true → AtL K H ds vs → AtL K H' ds vs
  | [], vs, _, h => by unfold AtL at h ⊢; exact h
  | d :: ds, vs, o, h => by
    unfold AtL at h ⊢
    obtain ⟨v, r, e, hd, hl⟩ := h
    unfold tupOL at o
    rw [Bool.and_eq_true] at o
    exact ⟨v, r, e, At.kpT s o.1 hd, AtL.kpT s o.2 hl⟩
end
theorem tupOL_map {α : Type} (f : α → Dt) (h : ∀ a, tupO (f a) = true) : ∀ l : List α, tupOL (l.map f) = true
  | [] => by simp [tupOL]
  | a :: l => by
    rw [List.map_cons]
    unfold tupOL
    rw [h a, tupOL_map f h l]
    rfl
theorem ins_tupO (a : Ins) : tupO a.dt = true := by
  cases a with
  | pl w ps =>
    unfold Ins.dt tupO tupOL
    rw [tupOL_map Pt.dt (fun p => by cases p <;> simp [Pt.dt, tupO])]
    simp [tupO]
  | wt e cs =>
    unfold Ins.dt
    simp only [tupO, tupOL, Bool.true_and, Bool.and_true]
    exact tupOL_map chD (fun c => by simp [chD, tupO, tupOL]) cs
theorem kpT_lst {H : Hp} {a : Addr} {xs ys : List V} (h : H a = some (.lst xs)) : KpT H (upd H a (.lst ys)) := fun b zs e => by
  rw [upd_ne (ne_of e h (by intro z; cases z))]
  exact e
section
variable {P : Program} {w : World} {K : PySem.W.Frag} {mg : Str → Option Value} {base : Heap} {CS f_err : Addr} {d_err : FuncData}
def spCode (K : PySem.W.Frag) (CS : Addr) : Sp := fun vs H Q E => ∃ z : Str, vs = [.str z] ∧ z.length ≤ 50000 ∧
  (∀ L v H', Lns z.cps.toList 0 L none → L.length ≤ z.length → At K H' (.tup (L.map Ins.dt)) v → Same H H' → Q v H') ∧
  ∀ L j d H', Lns z.cps.toList 0 L (some j) → Same H H' → xdF H' (some d) "start" (.int (j : Nat)) → E (.ref CS) (some d) H'
theorem ok_read_code {f : Addr} {fd : FuncData} (F : Fun K "read_code" "read_code" s_read_code f fd) (T : Txt K mg) (O_SyntaxProblem : OCal P w K mg base CS "SyntaxProblem" "start" f_err d_err) {f_read_line : Addr} {d_read_line : FuncData} (c_read_line : Cal P w K mg base 6 "read_line" ["line"] (spLine K) f_read_line d_read_line) : FnOk P w K mg base (L2.CX P w) 7 f fd ["text"] (spCode K CS) := by
  refine F.okX sc_read_code (fun vs H Q E h => ?_) (fun cdv A outer s H vs Q E hr h => ?_)
  · obtain ⟨z, rfl, _⟩ := h
    rfl
  · obtain ⟨z, rfl, hz', k1, k2⟩ := h
    have hz : z.length ≤ 100000 := by omega
    have hzl := len_cps z
    refine ⟨_, (pss_cons (ps_set (i := 1) sc_read_code.nd rfl (.inl rfl) (pe_lst pa_nil))
      (pss_cons (ps_set (i := 2) sc_read_code.nd rfl (.inl rfl) pe_int)
      (pss_cons (ps_while (passes_of rfl) (pt_cmpR op_lt (pv 2) (pe_callB call_len_str (by rfl) T.len PySem.boot_len (pa_cons (pv 0) pa_nil)) (nomark _)) (pss_cons (ps_set (i := 3) sc_read_code.nd rfl (.inl rfl) (pe_bm PySem.F.plainAttrs_str PySem.F.slot_str_find PySem.F.type_str_find mt_find3 (pv 0) (pa_cons pe_str (pa_cons (pv 2) pa_nil))))
      (pss_cons (ps_if (pt_cmpR op_eq (pv 3) (pe_un un_neg pe_int) (nomark _)) (pss_one (ps_raise rfl (takes_of rfl rfl rfl rfl) (pmk_oex O_SyntaxProblem.T O_SyntaxProblem.iC O_SyntaxProblem.tI O_SyntaxProblem.G (hr.mono (by decide)) O_SyntaxProblem.b .nil pass0 (by rfl) O_SyntaxProblem.m (pa_cons (pe_callB call_len_str (by rfl) T.len PySem.boot_len (pa_cons (pv 0) pa_nil)) pa_nil)))) pss_nil)
      (pss_cons (ps_set (i := 4) sc_read_code.nd rfl (.inl rfl) (pe_call c_read_line.G (hr.mono (by decide)) (by rfl) c_read_line.m c_read_line.k c_read_line.b .nil pass0 (pa_cons (pe_slice sl_str (pv 0) (po_some (pv 2)) (po_some (pv 3))) pa_nil)))
      (pss_cons (ps_if (pt_cmpR op_isN (pv 4) pe_non (nomark _)) (pss_one (ps_raise rfl (takes_of rfl rfl rfl rfl) (pmk_oex O_SyntaxProblem.T O_SyntaxProblem.iC O_SyntaxProblem.tI O_SyntaxProblem.G (hr.mono (by decide)) O_SyntaxProblem.b .nil pass0 (by rfl) O_SyntaxProblem.m (pa_cons (pv 2) pa_nil)))) pss_nil)
      (pss_cons (ps_expr (pe_bm PySem.F.plainAttrs_list PySem.F.slot_list_append PySem.F.type_list_append mt_append (pv 1) (pa_cons (pv 4) pa_nil)))
      (pss_one (ps_set (i := 2) sc_read_code.nd rfl (.inl rfl) (pe_op op_add (pv 3) pe_int)))))))))
      (pss_one (ps_ret (pe_callTy call_tuple_of (by rfl) T.tuple (by decide +kernel) (pa_cons (pv 1) pa_nil))))))), ?_⟩
    refine ⟨Nat.zero_le _, fun a na => ?_⟩
    refine ⟨fun m σ H' => ∃ (j : Nat) (L : List Ins) (vs : List V) (y3 y4 : Option V), σ = [some (.str z), some (.ref a), some (.int j), y3, y4] ∧ j ≤ z.length ∧ m = z.length + 1 - j ∧ Same H H' ∧ H' a = some (.lst vs) ∧ AtL K H' (L.map Ins.dt) vs ∧ L.length ≤ j ∧
      ∀ R r, Lns z.cps.toList j R r → Lns z.cps.toList 0 (L ++ R) r, ⟨z.length + 1, 0, [], [], none, none, rfl, by omega, rfl, same_upd na, upd_same, by simp [AtL], Nat.le_refl _, fun R r h => h⟩, ?_⟩
    rintro m σ H' ⟨j, L, vs, y3, y4, rfl, hj, rfl, sm, ha, hL, hl, ht⟩
    refine ⟨_, rfl, _, rfl, z, rfl, sz6 hz, _, _, rfl, rfl, _, rfl, ?_⟩
    by_cases c0 : j < z.length
    · rw [decide_eq_true (show (j : Int) < (z.length : Int) by omega)]
      refine iteT ⟨_, fun _ _ h => h, ?_⟩
      have e0 : Txt.find3 z (Str.ofString "\n") (j : Int) = if run notNl z.cps.toList j < z.length then ((run notNl z.cps.toList j : Nat) : Int) else -1 := find3_one z 10 j hj
      have hrl := run_le notNl z.cps.toList (i := j) (by omega)
      have hrg := le_run notNl z.cps.toList j
      refine ⟨_, rfl, rfl, _, rfl, z, _, _, rfl, rfl, ?_⟩
      rw [e0]
      by_cases c1 : run notNl z.cps.toList j < z.length
      · rw [if_pos c1]
        refine ⟨_, rfl, _, rfl, rfl, _, rfl, ?_⟩
        rw [decide_eq_false (fun q => by injection q with q; omega)]
        refine iteF ⟨_, rfl, _, rfl, _, rfl, _, rfl, _, rfl, z, rfl, sz6 hz, ?_⟩
        rw [cut_mid hrg (by omega)]
        refine ⟨sliceS z.cps.toList j (run notNl z.cps.toList j), rfl, ?_, fun e H2 s2 => ?_, fun b e v H2 s2 hv => ?_⟩
        · unfold sliceS Str.length
          simp only [List.size_toArray, List.length_take, List.length_drop]
          omega
        · refine ⟨_, rfl, rfl, _, rfl, ?_⟩
          rw [decide_eq_true (rfl : V.non = V.non)]
          refine iteT ⟨_, rfl, mk_exc fun d H3 s3 _ hx => ?_⟩
          exact k2 (L ++ []) j d H3 (ht _ _ (.bad (by omega) (by omega) e)) (Same.trans (Same.trans sm s2) s3) hx
        · have hvn : ¬ v = V.non := fun q => by
            rw [q] at hv
            cases b with
            | pl _ _ => simp only [Ins.dt, At] at hv; obtain ⟨_, _, q, _⟩ := hv; cases q
            | wt _ _ => simp only [Ins.dt, At] at hv; obtain ⟨_, _, q, _⟩ := hv; cases q
          refine ⟨_, rfl, rfl, _, rfl, ?_⟩
          rw [decide_eq_false hvn]
          have ha2 := s2 _ _ ha
          have hL2 := AtL.keep s2 hL
          have lv := hL.length
          rw [List.length_map] at lv
          refine iteF ⟨_, rfl, .inl ⟨rfl, _, SqL.of ha2⟩, _, rfl, a, _, _, rfl, rfl, ha2, by rw [lv]; exact sz6' (by omega), ?_⟩
          refine ⟨_, rfl, _, _, rfl, rfl, ?_⟩
          have kp := kpT_lst (ys := vs ++ [v]) ha2
          refine ⟨z.length + 1 - (run notNl z.cps.toList j + 1), by omega, run notNl z.cps.toList j + 1, L ++ [b], vs ++ [v], _, _, rfl, by omega, rfl, same_off na (Same.trans sm s2), upd_same, ?_, ?_, fun R r h => ?_⟩
          · rw [List.map_append]
            exact AtL.snoc (At.kpT kp (ins_tupO b) hv) (AtL.kpT kp (tupOL_map _ ins_tupO L) hL2)
          · rw [List.length_append, List.length_singleton]
            omega
          · rw [List.append_assoc]
            exact ht _ _ (.ok (by omega) (by omega) e h)
      · rw [if_neg c1]
        refine ⟨_, rfl, _, rfl, rfl, _, rfl, ?_⟩
        rw [decide_eq_true rfl]
        refine iteT ⟨_, rfl, z, rfl, sz6 hz, mk_exc fun d H3 s3 _ hx => ?_⟩
        rw [hzl] at hx
        exact k2 (L ++ []) _ d H3 (ht _ _ (.cut (by omega) (by omega))) (Same.trans sm s3) hx
    · rw [decide_eq_false (show ¬ (j : Int) < (z.length : Int) by omega)]
      refine iteF ⟨_, rfl, a, vs, rfl, .inl ⟨SqL.of ha, fun t ht' => ?_⟩⟩
      have q := ht [] none (.done (by omega))
      rw [List.append_nil] at q
      refine k1 L _ _ q (by omega) ?_ (Same.trans sm (same_upd ht'))
      unfold At
      exact ⟨t, vs, rfl, upd_same, AtL.keep (same_upd ht') hL⟩
end
end OS

namespace OS
open PySem PySem.Spec PyProof.Rows L2
def Ins.pts : Ins → List Pt
  | .pl w ps => .nam w :: ps
  | .wt e cs => .nam "wait" :: .nam e :: cs.flatMap ptsOf
theorem pts_words (a : Ins) : a.pts.map Pt.str = a.words := by
  cases a with
  | pl w ps => rfl
  | wt e cs =>
    show ("wait" : Str) :: e :: (cs.flatMap ptsOf).map Pt.str = ("wait" : Str) :: e :: cs.flatMap chW
    have q : (cs.flatMap ptsOf).map Pt.str = cs.flatMap chW := by
      induction cs with
      | nil => rfl
      | cons c cs ih =>
        rw [List.flatMap_cons, List.flatMap_cons, List.map_append, ih]
        rfl
    rw [q]
/-- small numbers, and the word wait for waits alone -/
def fine (a : Ins) : Prop := (∀ n, Pt.num n ∈ a.pts → n < 10 ^ 10) ∧ ∀ w ps, a = .pl w ps → ¬ w = "wait"
theorem pts_inv {K : PySem.W.Frag} {H : Hp} : ∀ {ps : List Pt} {vs : List V}, AtL K H (ps.map Pt.dt) vs → vs = ps.map Pt.v
  | [], vs, h => by
    rw [List.map_nil] at h
    unfold AtL at h
    rw [h]
    rfl
  | p :: ps, vs, h => by
    rw [List.map_cons] at h
    unfold AtL at h
    obtain ⟨v, r, rfl, hp, hr⟩ := h
    rw [pts_inv hr, List.map_cons]
    cases p <;> (simp only [Pt.dt, At] at hp; rw [hp]; rfl)
theorem chs_get {K : PySem.W.Frag} {H : Hp} {cs : List (Str × Str × Nat)} {vs : List V} (h : AtL K H (cs.map chD) vs) {i : Nat} {c : Str × Str × Nat} (hi : cs[i]? = some c) : ∃ b, vs[i]? = some (.ref b) ∧ H b = some (.tup [.str c.1, .str c.2.1, .int (c.2.2 : Nat)]) := by
  obtain ⟨v, e1, e2⟩ := h.get (i := i) (d := chD c) (by rw [List.getElem?_map, hi]; rfl)
  simp only [chD, At, AtL] at e2
  obtain ⟨b, zs, rfl, hb, _, _, rfl, rfl, _, _, rfl, rfl, _, _, rfl, rfl, rfl⟩ := e2
  exact ⟨b, e1, hb⟩
theorem flat_take {α β : Type} (f : α → List β) {l : List α} {i : Nat} {x : α} (h : l[i]? = some x) : (l.take (i + 1)).flatMap f = (l.take i).flatMap f ++ f x := by
  rw [List.take_add_one, h, List.flatMap_append]
  simp
theorem size_pts (a : Ins) : a.pts.length ≤ a.size := by
  unfold Ins.size
  rw [← pts_words, List.length_map (as := a.pts)]
  omega
theorem flat_len {cs : List (Str × Str × Nat)} {i : Nat} : ((cs.take i).flatMap ptsOf).length ≤ (cs.flatMap ptsOf).length := by
  have e : cs.flatMap ptsOf = (cs.take i).flatMap ptsOf ++ (cs.drop i).flatMap ptsOf := by
    rw [← List.flatMap_append, List.take_append_drop]
  rw [e, List.length_append]
  omega
section
variable {P : Program} {w : World} {K : PySem.W.Frag} {mg : Str → Option Value} {base : Heap}
def spLn (K : PySem.W.Frag) : Sp := fun vs H Q _ => ∃ (v : V) (a : Ins), vs = [v] ∧ At K H a.dt v ∧ fine a ∧ a.size ≤ 100000 ∧ ∀ H', Same H H' → Q (.str a.line) H'
theorem ok_line_of {f : Addr} {fd : FuncData} (F : Fun K "line_of" "line_of" s_line_of f fd) (T : Txt K mg) : FnOk P w K mg base CX0 1 f fd ["instruction"] (spLn K) := by
  refine F.ok sc_line_of (fun vs H Q E h => ?_) (fun cdv A outer s H vs Q E hr h => ?_)
  · obtain ⟨v, a, rfl, _⟩ := h
    rfl
  · obtain ⟨v, a, rfl, hv, hf, hs, k⟩ := h
    refine ⟨_, (pss_cons (ps_set (i := 1) sc_line_of.nd rfl (.inl rfl) (pe_callTy call_list_of (by rfl) T.list (by decide +kernel) (pa_cons (pv 0) pa_nil)))
      (Evl.pss_cut (ps_if (pt_cmpR op_eq (pe_ix ix_tup (pv 0) pe_int (fun _ _ => rfl)) pe_str (nomark _)) (pss_cons (ps_set (i := 1) sc_line_of.nd rfl (.inl rfl) (pe_slice sl_list (pv 1) po_none (po_some pe_int)))
      (pss_one (ps_for PassesOwn.never rfl (pi_tup (pe_ix ix_tup (pv 0) pe_int (fun _ _ => rfl))) (pg_name (i := 2) sc_line_of.nd rfl (.inl rfl)) (pss_one (ps_expr (pe_bm PySem.F.plainAttrs_list PySem.F.slot_list_extend PySem.F.type_list_extend mt_extT (pv 1) (pa_cons (pv 2) pa_nil))))))) pss_nil)
      (pss_one (ps_ret (pe_join pe_str (pe_lc (own := [("part", 3)]) (g := gName 3) (by rfl) sc_line_of.nd (pi_list (pv 1)) (blkOk_by (N := ["instruction", "parts", "choice", "part"]) (sc := defScope s_line_of) (by decide +kernel)) (fun _ _ _ _ _ => pg_name (i := 3) sc_line_of.nd rfl (by first | exact Or.inl rfl | exact Or.inr rfl)) (fun _ _ _ _ _ => pts_nil) (fun _ _ _ _ _ => (pe_callTy (CallR.or call_str_int SkE.call_str_str) (by rfl) T.str (by decide +kernel) (pa_cons (pv 3) pa_nil))))))))), ?_⟩
    have hsp := size_pts a
    obtain ⟨p, us, rfl, hp⟩ : ∃ p us, v = .ref p ∧ H p = some (.tup us) := by
      cases a with
      | pl w ps => simp only [Ins.dt, At] at hv; obtain ⟨p, us, e, h, _⟩ := hv; exact ⟨p, us, e, h⟩
      | wt e cs => simp only [Ins.dt, At] at hv; obtain ⟨p, us, e, h, _⟩ := hv; exact ⟨p, us, e, h⟩
    refine ⟨_, rfl, p, us, rfl, .inr (SqT.of hp), fun l nl => ?_⟩
    refine ⟨fun σ H' => ∃ l y, σ = [some (.ref p), some (.ref l), y, none] ∧ Same H H' ∧ H' l = some (.lst (a.pts.map Pt.v)), ?_, ?_⟩
    · cases a with
      | pl w0 ps =>
        simp only [Ins.dt, At, AtL] at hv
        obtain ⟨p', us', e1, hp', _, r, rfl, rfl, hr'⟩ := hv
        cases e1
        rw [hp] at hp'
        cases hp'
        have er := pts_inv hr'
        subst er
        have s1 := same_upd (o := .lst (V.str w0 :: ps.map Pt.v)) nl
        refine ⟨_, rfl, p, _, _, _, rfl, rfl, SqT.of (s1 _ _ hp), atI_nat (j := 0) rfl, rfl, _, rfl, ?_⟩
        rw [decide_eq_false (show ¬ V.str w0 = V.str (Str.ofString "wait") from fun q => hf.2 w0 ps rfl (by injection q))]
        exact iteF ⟨l, _, rfl, s1, upd_same⟩
      | wt e cs =>
        simp only [Ins.dt, At, AtL] at hv
        obtain ⟨p', us', e1, hp', _, _, rfl, rfl, _, _, rfl, rfl, _, _, rfl, ⟨c, cvs, rfl, hc, hcs⟩, rfl⟩ := hv
        cases e1
        rw [hp] at hp'
        cases hp'
        have s1 := same_upd (o := .lst [V.str "wait", V.str e, V.ref c]) nl
        refine ⟨_, rfl, p, _, _, _, rfl, rfl, SqT.of (s1 _ _ hp), atI_nat (j := 0) rfl, rfl, _, rfl, ?_⟩
        rw [decide_eq_true rfl]
        refine iteT ⟨_, rfl, _, rfl, l, _, rfl, SqL.of upd_same, fun l2 nl2 => ?_⟩
        have e2 : cutV [V.str "wait", V.str e, V.ref c] none (some 2) = [V.str "wait", V.str e] := rfl
        rw [e2]
        have s2 := Same.trans s1 (same_upd (o := .lst [V.str "wait", V.str e]) nl2)
        have lcs := hcs.length
        rw [List.length_map] at lcs
        refine ⟨_, rfl, p, _, _, _, rfl, rfl, SqT.of (s2 _ _ hp), atI_nat (j := 2) rfl, c, rfl, ⟨_, SqT.of (s2 _ _ hc)⟩, ?_⟩
        have nl2' : H l2 = none := by
          cases q : H l2 with
          | none => rfl
          | some o => rw [s1 _ _ q] at nl2; cases nl2
        refine for_tup (K := K) (a := c) (xs := cvs) (fun i σ H' => ∃ y, σ = [some (.ref p), some (.ref l2), y, none] ∧ Same H H' ∧ H' l2 = some (.lst (V.str "wait" :: V.str e :: ((cs.take i).flatMap ptsOf).map Pt.v))) ⟨_, rfl, s2, upd_same⟩ (fun i σ H' _ q => ?_) ?_ ?_
        · obtain ⟨_, _, q, _⟩ := q
          exact SqT.of (q _ _ hc)
        · rintro i x σ H' hx ⟨y, rfl, sm, hl⟩
          have hi : i < cs.length := by
            have := (List.getElem?_eq_some_iff.mp hx).1
            omega
          obtain ⟨b, eb, hb⟩ := chs_get hcs (List.getElem?_eq_getElem hi)
          rw [hx] at eb
          have eb := Option.some.inj eb
          subst eb
          have hb1 := sm _ _ hb
          have lsz : (Ins.wt e cs).pts.length = 2 + (cs.flatMap ptsOf).length := by
            show (cs.flatMap ptsOf).length + 1 + 1 = _
            omega
          have lft := flat_len (cs := cs) (i := i)
          refine ⟨_, rfl, .inl ⟨rfl, _, SqL.of hl⟩, _, rfl, l2, b, _, _, rfl, rfl, hl, hb1, ?_, ?_⟩
          · simp only [List.length_cons, List.length_map, List.length_nil]
            exact Nat.le_trans (show _ ≤ 200000 by omega) (by decide)
          · refine ⟨_, rfl, same_off nl2' sm, ?_⟩
            rw [upd_same, flat_take ptsOf (List.getElem?_eq_getElem hi), List.map_append]
            rfl
        · rintro σ H' ⟨y, rfl, sm, hl⟩
          refine ⟨l2, y, rfl, sm, ?_⟩
          rw [hl, lcs, List.take_length]
          rfl
    · rintro σ H' ⟨l, y, rfl, sm, hl⟩
      refine ⟨⟨_, rfl⟩, _, rfl, l, rfl, ⟨_, SqL.of hl⟩, fun D nD => ?_⟩
      have nD' : H D = none := by
        cases q : H D with
        | none => rfl
        | some o => rw [sm _ _ q] at nD; cases nD
      refine lc_list (K := K) (a := l) (xs := a.pts.map Pt.v) (fun i H2 => H2 D = some (.lst ((a.words.take i).map V.str)) ∧ Same H' H2) ⟨upd_same, same_upd nD⟩ (fun i H2 _ q => SqL.of (q.2 _ _ hl)) ?_ ?_
      · rintro i x H2 hx ⟨hD, s2⟩
        obtain ⟨pt, ep, rfl⟩ : ∃ pt, a.pts[i]? = some pt ∧ x = pt.v := by
          rw [List.getElem?_map] at hx
          cases q : a.pts[i]? with
          | none => rw [q] at hx; cases hx
          | some pt => rw [q] at hx; exact ⟨pt, rfl, (Option.some.inj hx).symm⟩
        refine ⟨rfl, iteT (B := True) ⟨_, rfl, ?_⟩⟩
        have G : ∃ acc, H2 D = some (HO.lst acc) ∧ acc.length < sizeLine ∧ upd H2 D (HO.lst (acc ++ [V.str pt.str])) D = some (HO.lst (List.map V.str (List.take (i + 1) a.words))) ∧ Same H' (upd H2 D (HO.lst (acc ++ [V.str pt.str]))) := by
          refine ⟨_, hD, ?_, ?_, same_off nD s2⟩
          · rw [List.length_map, List.length_take]
            have : a.words.length ≤ a.size := by unfold Ins.size; omega
            exact sz6' (by
              have h1 := (List.getElem?_eq_some_iff.mp ep).1
              omega)
          · rw [upd_same, List.take_add_one, ← pts_words, List.getElem?_map, ep, List.map_append]
            rfl
        have hpm := List.mem_of_getElem? ep
        cases pt with
        | num n => exact .inl ⟨_, rfl, log_small (hf.1 n hpm), G⟩
        | nam z => exact .inr ⟨_, rfl, G⟩
      · rintro H2 ⟨hD, s2⟩
        have el : a.words.take (a.pts.map Pt.v).length = a.words := List.take_of_length_le (by rw [← pts_words, List.length_map, List.length_map]; exact Nat.le_refl _)
        rw [el] at hD
        refine ⟨_, D, a.words, rfl, rfl, .inl (SqL.of hD), ?_, k _ (Same.trans sm s2)⟩
        have e1 : (Str.ofString " ").length = 1 := by decide +kernel
        rw [e1, Nat.mul_one]
        exact Nat.le_trans hs (by decide)
end
end OS

namespace OS
open PySem PySem.Spec PyProof.Rows L2
theorem join_nil : ∀ ys : List (List Nat), TL.joinL [] ys = ys.flatten
  | [] => rfl
  | [p] => by simp [TL.joinL]
  | p :: q :: r => by
    have ih := join_nil (q :: r)
    show p ++ ([] ++ TL.joinL [] (q :: r)) = _
    rw [ih]
    simp
def lineNl (a : Ins) : Str := a.line ++ "\n"
theorem tl_lineNl (a : Ins) : TL.tl (lineNl a) = TL.tl a.line ++ [10] := by
  unfold lineNl
  rw [TL.tl_append]
  exact congrArg _ tl_nl
theorem join_lines (L : List Ins) : Txt.join "" (L.map lineNl) = ⟨(txtL L).toArray⟩ := by
  refine TL.ext_tl ?_
  show TL.tl (Txt.join (Str.ofString "") (L.map lineNl)) = txtL L
  have e : TL.tl (Str.ofString "") = [] := by decide +kernel
  rw [TL.join_eq, TL.tl_join, e, join_nil, List.map_map]
  unfold txtL
  rw [List.flatMap_def]
  congr 1
  exact List.map_congr_left fun a _ => tl_lineNl a
theorem len_lines (L : List Ins) : ((L.map lineNl).map (·.length)).sum = (txtL L).length := by
  induction L with
  | nil => rfl
  | cons a L ih =>
    rw [List.map_cons, List.map_cons, List.sum_cons, ih]
    show (lineNl a).length + _ = ((TL.tl a.line ++ [10]) ++ txtL L).length
    rw [List.length_append, ← tl_lineNl, ← TL.len_tl]
theorem nl_len : (Str.ofString "\n").length = 1 := by decide +kernel
theorem insL_get {K : PySem.W.Frag} {H : Hp} {L : List Ins} {vs : List V} (h : AtL K H (L.map Ins.dt) vs) {i : Nat} {x : V} (hx : vs[i]? = some x) : ∃ a, L[i]? = some a ∧ At K H a.dt x := by
  have hi : i < L.length := by
    have h1 := (List.getElem?_eq_some_iff.mp hx).1
    have h2 := h.length
    rw [List.length_map] at h2
    omega
  obtain ⟨v, e1, e2⟩ := h.get (i := i) (d := (L[i]).dt) (by rw [List.getElem?_map, List.getElem?_eq_getElem hi]; rfl)
  rw [hx] at e1
  cases e1
  exact ⟨_, List.getElem?_eq_getElem hi, e2⟩
section
variable {P : Program} {w : World} {K : PySem.W.Frag} {mg : Str → Option Value} {base : Heap}
def spWc (K : PySem.W.Frag) : Sp := fun vs H Q _ => ∃ (v : V) (L : List Ins), vs = [v] ∧ At K H (.tup (L.map Ins.dt)) v ∧ (∀ a ∈ L, fine a ∧ a.size ≤ 90000) ∧ L.length ≤ 90000 ∧ (txtL L).length ≤ 1000000 ∧ ∀ H', Same H H' → Q (.str ⟨(txtL L).toArray⟩) H'
theorem ok_write_code {f : Addr} {fd : FuncData} (F : Fun K "write_code" "write_code" s_write_code f fd) (T : Txt K mg) {f_line_of : Addr} {d_line_of : FuncData} (c_line_of : Cal P w K mg base 1 "line_of" ["instruction"] (spLn K) f_line_of d_line_of) : FnOk P w K mg base CX0 2 f fd ["code"] (spWc K) := by
  refine F.ok sc_write_code (fun vs H Q E h => ?_) (fun cdv A outer s H vs Q E hr h => ?_)
  · obtain ⟨v, L, rfl, _⟩ := h
    rfl
  · obtain ⟨v, L, rfl, hv, hf, hn, hs, k⟩ := h
    refine ⟨_, (pss_one (ps_ret (pe_join pe_str (pe_lc (own := [("instruction", 1)]) (g := gName 1) (by rfl) sc_write_code.nd (pi_tup (pv 0)) (blkOk_by (N := ["code", "instruction"]) (sc := defScope s_write_code) (by decide +kernel)) (fun _ _ _ _ _ => pg_name (i := 1) sc_write_code.nd rfl (by first | exact Or.inl rfl | exact Or.inr rfl)) (fun _ _ _ _ _ => pts_nil) (fun _ _ _ _ _ => (pe_op op_add_str (pe_call c_line_of.G (hr.mono (by decide)) (by rfl) c_line_of.m c_line_of.k c_line_of.b .nil pass0 (pa_cons (pv 1) pa_nil)) pe_str)))))), ?_⟩
    simp only [At] at hv
    obtain ⟨p, us, rfl, hp, hL⟩ := hv
    have lu := hL.length
    rw [List.length_map] at lu
    refine ⟨⟨_, rfl⟩, _, rfl, p, rfl, ⟨_, SqT.of hp⟩, fun D nD => ?_⟩
    refine lc_tup (K := K) (a := p) (xs := us) (fun i H2 => H2 D = some (.lst (((L.take i).map lineNl).map V.str)) ∧ Same H H2) ⟨upd_same, same_upd nD⟩ (fun i H2 _ q => SqT.of (q.2 _ _ hp)) ?_ ?_
    · rintro i x H2 hx ⟨hD, s2⟩
      obtain ⟨a, ea, hat⟩ := insL_get hL hx
      have ha := hf a (List.mem_of_getElem? ea)
      refine ⟨rfl, iteT (B := True) ⟨_, rfl, x, a, rfl, hat.keep s2, ha.1, by omega, fun H3 s3 => ⟨_, _, rfl, rfl, ?_, ?_⟩⟩⟩
      · have := line_len a
        show _ + (Str.ofString "\n").length ≤ _
        rw [nl_len]
        exact Nat.le_trans (show _ ≤ 100000 by omega) (by decide)
      · refine ⟨_, s3 _ _ hD, ?_, ?_, same_off nD (Same.trans s2 s3)⟩
        · rw [List.length_map, List.length_map, List.length_take]
          exact sz6' (by omega)
        · rw [upd_same, List.take_add_one, ea, List.map_append, List.map_append]
          rfl
    · rintro H2 ⟨hD, s2⟩
      rw [lu, List.take_length] at hD
      refine ⟨_, D, L.map lineNl, rfl, rfl, .inl (SqL.of hD), ?_, ?_⟩
      · rw [len_lines]
        have e : (Str.ofString "").length = 0 := by decide +kernel
        rw [e]
        omega
      · have e := join_lines L
        show Q (.str (Txt.join (Str.ofString "") (L.map lineNl))) H2
        rw [show Txt.join (Str.ofString "") (L.map lineNl) = _ from e]
        exact k _ s2
theorem cutT (x : V) (r : List V) : cutV (x :: r) (some 1) none = r := by
  unfold cutV
  rw [show (1 : Int) = ((1 : Nat) : Int) from rfl, HT.sIx_nat, HT.sIx_none]
  have e : min 1 (x :: r).length = 1 := by rw [List.length_cons]; omega
  rw [e, List.drop_succ_cons, List.drop_zero, List.take_of_length_le]
  rw [List.length_cons]
  omega
theorem six1 (x : V) (r : List V) : ¬ HT.sIx (x :: r).length 0 (some 1) = 0 := by
  rw [show (1 : Int) = ((1 : Nat) : Int) from rfl, HT.sIx_nat, List.length_cons]
  omega
def spLL (K : PySem.W.Frag) : Sp := fun vs H Q _ => ∃ (v : V) (a : Ins), vs = [v] ∧ At K H a.dt v ∧ fine a ∧ a.size ≤ 100000 ∧ ∀ H', Same H H' → Q (.str (lineNl a)) H'
theorem ok_law_line {f : Addr} {fd : FuncData} (F : Fun K "_law_line" "_law_line" s__law_line f fd) (T : Txt K mg) : FnOk P w K mg base CX0 1 f fd ["one"] (spLL K) := by
  refine F.ok sc__law_line (fun vs H Q E h => ?_) (fun cdv A outer s H vs Q E hr h => ?_)
  · obtain ⟨v, a, rfl, _⟩ := h
    rfl
  · obtain ⟨v, a, rfl, hv, hf, hs, k⟩ := h
    refine ⟨_, (pss_cons (ps_set (i := 1) sc__law_line.nd rfl (.inl rfl) (pe_lst (pa_cons (pe_ix ix_tup (pv 0) pe_int (fun _ _ => rfl)) pa_nil)))
      (pss_cons (ps_for PassesOwn.never rfl (pi_tup (pe_slice sl_tupA (pv 0) (po_some pe_int) po_none)) (pg_name (i := 2) sc__law_line.nd rfl (.inl rfl)) (pss_one (ps_if (pt_val (pe_callB call_isi (by rfl) T.isinstance (by decide +kernel) (pa_cons (pv 2) (pa_cons (pe_bltn (v := .ty "tuple") (u := Value.type "tuple") (by rfl) T.tuple (by decide +kernel) rfl) pa_nil)))) (pss_one (ps_for PassesOwn.never rfl (pi_tup (pv 2)) (pg_name (i := 3) sc__law_line.nd rfl (.inl rfl)) (pss_one (ps_set (i := 1) sc__law_line.nd rfl (.inl rfl) (pe_op op_cat (pv 1) (pe_lst (pa_cons (pe_ix ix_tup (pv 3) pe_int (fun _ _ => rfl)) (pa_cons (pe_ix ix_tup (pv 3) pe_int (fun _ _ => rfl)) (pa_cons (pe_callTy call_str_int (by rfl) T.str (by decide +kernel) (pa_cons (pe_ix ix_tup (pv 3) pe_int (fun _ _ => rfl)) pa_nil)) pa_nil))))))))) (pss_one (ps_expr (pe_bm PySem.F.plainAttrs_list PySem.F.slot_list_append PySem.F.type_list_append mt_append (pv 1) (pa_cons (pe_callTy (CallR.or call_str_int SkE.call_str_str) (by rfl) T.str (by decide +kernel) (pa_cons (pv 2) pa_nil)) pa_nil)))))))
      (pss_one (ps_ret (pe_op op_add_str (pe_join pe_str (pv 1)) pe_str))))), ?_⟩
    have hwl : a.words.length ≤ a.size := by unfold Ins.size; omega
    have fin : ∀ (σ : L2.St) (H1 : Hp) (l : Addr) (y2 y3 : Option V) (p : Addr), σ = [some (V.ref p), some (V.ref l), y2, y3] → Same H H1 → H1 l = some (.lst (a.words.map V.str)) → (tRet (tOp (fun x y H Q => ∃ i j, x = .str i ∧ y = .str j ∧ i.length + j.length ≤ sizeLine ∧ Q (.str (i ++ j)) H) (tM1 (fun x xs H Q => ∃ a p, ∃ ys : List Str, x = .str a ∧ xs = [.ref p] ∧ (SqL K H p (ys.map V.str) ∨ SqT K H p (ys.map V.str)) ∧ (ys.map (·.length)).sum + ys.length * a.length ≤ 16777216 ∧ Q (.str (Txt.join a ys)) H) (tC (V.str " ")) (tVar 1)) (tC (V.str "\n"))) { nx := fun _ H' => Q .non H', rt := Q }) σ H1 := by
      rintro _ H1 l y2 y3 p rfl sm hl
      refine ⟨⟨_, rfl⟩, _, rfl, _, l, a.words, rfl, rfl, .inl (SqL.of hl), ?_, _, _, rfl, rfl, ?_, k _ sm⟩
      · have e1 : (Str.ofString " ").length = 1 := by decide +kernel
        rw [e1, Nat.mul_one]
        exact Nat.le_trans hs (by decide)
      · have := line_len a
        show a.line.length + (Str.ofString "\n").length ≤ _
        rw [nl_len]
        exact Nat.le_trans (show _ ≤ 200000 by omega) (by decide)
    cases a with
    | pl w0 ps =>
      simp only [Ins.dt, At, AtL] at hv
      obtain ⟨p, us, rfl, hp, _, r, rfl, rfl, hr'⟩ := hv
      have er := pts_inv hr'
      subst er
      refine ⟨_, rfl, p, _, _, _, rfl, rfl, SqT.of hp, atI_nat (j := 0) rfl, by show 1 ≤ sizeLine; decide, fun l nl => ?_⟩
      have s1 := same_upd (o := .lst [V.str w0]) nl
      have hp1 := s1 _ _ hp
      refine ⟨_, rfl, _, rfl, p, _, rfl, SqT.of hp1, fun q => absurd q.1 (six1 _ _), fun _ t ht => ?_⟩
      rw [cutT]
      have s2 := Same.trans s1 (same_upd (o := .tup (ps.map Pt.v)) ht)
      have nl2 : (upd (upd H l (.lst [V.str w0])) t (.tup (ps.map Pt.v))) l = some (.lst [V.str w0]) := by
        rw [upd_ne (ne_of_none upd_same ht)]
        exact upd_same
      refine ⟨t, rfl, ⟨_, SqT.of upd_same⟩, ?_⟩
      have ht0 : (upd (upd H l (.lst [V.str w0])) t (.tup (ps.map Pt.v))) t = some (.tup (ps.map Pt.v)) := upd_same
      generalize upd (upd H l (.lst [V.str w0])) t (.tup (ps.map Pt.v)) = H0 at s2 nl2 ht0
      refine for_tup (K := K) (a := t) (xs := ps.map Pt.v) (fun i σ H' => ∃ y, σ = [some (.ref p), some (.ref l), y, none] ∧ Same H H' ∧ H' t = some (.tup (ps.map Pt.v)) ∧ H' l = some (.lst ((w0 :: (ps.take i).map Pt.str).map V.str))) ⟨_, rfl, s2, ht0, nl2⟩ (fun i σ H' _ q => ?_) ?_ ?_
      · obtain ⟨_, _, _, q, _⟩ := q
        exact SqT.of q
      · rintro i x σ H' hx ⟨y, rfl, sm, hT', hl⟩
        obtain ⟨pt, ep, rfl⟩ : ∃ pt, ps[i]? = some pt ∧ x = pt.v := by
          rw [List.getElem?_map] at hx
          cases q : ps[i]? with
          | none => rw [q] at hx; cases hx
          | some pt => rw [q] at hx; exact ⟨pt, rfl, (Option.some.inj hx).symm⟩
        have hpl : ps.length + 1 = (Ins.pl w0 ps).words.length := by
          show _ = (w0 :: ps.map Pt.str).length
          rw [List.length_cons, List.length_map]
        have hi := (List.getElem?_eq_some_iff.mp ep).1
        have G : (w0 :: (ps.take i).map Pt.str).length < sizeLine ∧ ∃ y', [some (V.ref p), some (V.ref l), some pt.v, none] = [some (V.ref p), some (V.ref l), y', none] ∧ Same H (upd H' l (.lst ((w0 :: (ps.take i).map Pt.str).map V.str ++ [V.str pt.str]))) ∧
            upd H' l (.lst ((w0 :: (ps.take i).map Pt.str).map V.str ++ [V.str pt.str])) t = some (.tup (ps.map Pt.v)) ∧ upd H' l (.lst ((w0 :: (ps.take i).map Pt.str).map V.str ++ [V.str pt.str])) l = some (.lst ((w0 :: (ps.take (i + 1)).map Pt.str).map V.str)) := by
          refine ⟨?_, _, rfl, same_off nl sm, ?_, ?_⟩
          · rw [List.length_cons, List.length_map, List.length_take]
            exact sz6' (by omega)
          · rw [upd_ne (ne_of hT' hl (by intro z; cases z))]
            exact hT'
          · rw [upd_same, List.take_add_one, ep, List.map_append, List.map_cons, List.map_cons, List.map_append]
            rfl
        obtain ⟨G1, G2⟩ := G
        have G1 : ((w0 :: (ps.take i).map Pt.str).map V.str).length < sizeLine := by rw [List.length_map]; exact G1
        have hpm : pt ∈ (Ins.pl w0 ps).pts := List.mem_cons_of_mem _ (List.mem_of_getElem? ep)
        cases pt with
        | num n =>
          refine ⟨_, rfl, _, _, .type "int", .type "tuple", false, rfl, .ty _, .base (.int _), kit_ty (by decide +kernel), false, rfl, iteF ?_⟩
          exact ⟨_, rfl, .inl ⟨rfl, _, SqL.of hl⟩, _, rfl, .inl ⟨_, rfl, log_small (hf.1 n hpm), l, _, _, rfl, rfl, hl, G1, G2⟩⟩
        | nam z =>
          refine ⟨_, rfl, _, _, .type "str", .type "tuple", false, rfl, .ty _, .base (.str _), kit_ty (by decide +kernel), false, rfl, iteF ?_⟩
          exact ⟨_, rfl, .inl ⟨rfl, _, SqL.of hl⟩, _, rfl, .inr ⟨_, rfl, l, _, _, rfl, rfl, hl, G1, G2⟩⟩
      · rintro σ H' ⟨y, rfl, sm, hT', hl⟩
        refine fin _ H' l _ _ p rfl sm ?_
        rw [hl, List.length_map, List.take_length]
        rfl
    | wt e cs =>
      simp only [Ins.dt, At, AtL] at hv
      obtain ⟨p, us, rfl, hp, _, _, rfl, rfl, _, _, rfl, rfl, _, _, rfl, ⟨c, cvs, rfl, hc, hcs⟩, rfl⟩ := hv
      have lcs := hcs.length
      rw [List.length_map] at lcs
      refine ⟨_, rfl, p, _, _, _, rfl, rfl, SqT.of hp, atI_nat (j := 0) rfl, by show 1 ≤ sizeLine; decide, fun l nl => ?_⟩
      have s1 := same_upd (o := .lst [V.str "wait"]) nl
      have hp1 := s1 _ _ hp
      refine ⟨_, rfl, _, rfl, p, _, rfl, SqT.of hp1, fun q => absurd q.1 (six1 _ _), fun _ t ht => ?_⟩
      rw [cutT]
      have s2 := Same.trans s1 (same_upd (o := .tup [V.str e, V.ref c]) ht)
      have nl2 : (upd (upd H l (.lst [V.str "wait"])) t (.tup [V.str e, V.ref c])) l = some (.lst [V.str "wait"]) := by
        rw [upd_ne (ne_of_none upd_same ht)]
        exact upd_same
      refine ⟨t, rfl, ⟨_, SqT.of upd_same⟩, ?_⟩
      have ht0 : (upd (upd H l (.lst [V.str "wait"])) t (.tup [V.str e, V.ref c])) t = some (.tup [V.str e, V.ref c]) := upd_same
      generalize upd (upd H l (.lst [V.str "wait"])) t (.tup [V.str e, V.ref c]) = H0 at s2 nl2 ht0
      refine for_tup (K := K) (a := t) (xs := [V.str e, V.ref c]) (fun i σ H' => ∃ l' y2 y3, σ = [some (.ref p), some (.ref l'), y2, y3] ∧ Same H H' ∧ H' t = some (.tup [V.str e, V.ref c]) ∧
        ((i = 0 ∧ l' = l ∧ H' l' = some (.lst [V.str "wait"])) ∨ (i = 1 ∧ l' = l ∧ H' l' = some (.lst [V.str "wait", V.str e])) ∨ (i = 2 ∧ H' l' = some (.lst ((Ins.wt e cs).words.map V.str))))) ⟨l, _, _, rfl, s2, ht0, .inl ⟨rfl, rfl, nl2⟩⟩ (fun i σ H' _ q => ?_) ?_ ?_
      · obtain ⟨_, _, _, _, _, q, _⟩ := q
        exact SqT.of q
      · rintro i x σ H' hx ⟨l', y2, y3, rfl, sm, hT', hl⟩
        rcases hl with ⟨rfl, rfl, hl⟩ | ⟨rfl, rfl, hl⟩ | ⟨rfl, hl⟩
        · have hx : x = V.str e := (Option.some.inj hx).symm
          subst hx
          refine ⟨_, rfl, _, _, .type "str", .type "tuple", false, rfl, .ty _, .base (.str _), kit_ty (by decide +kernel), false, rfl, iteF ?_⟩
          refine ⟨_, rfl, .inl ⟨rfl, _, SqL.of hl⟩, _, rfl, .inr ⟨_, rfl, l', _, _, rfl, rfl, hl, by show 1 < sizeLine; decide, ?_⟩⟩
          refine ⟨l', _, _, rfl, same_off nl sm, ?_, .inr (.inl ⟨rfl, rfl, upd_same⟩)⟩
          rw [upd_ne (ne_of hT' hl (by intro z; cases z))]
          exact hT'
        · have hx : x = V.ref c := (Option.some.inj hx).symm
          subst hx
          have hc' := sm _ _ hc
          refine ⟨_, rfl, _, _, .type "tuple", .type "tuple", true, rfl, .ty _, .base (.tup hc'), kit_ty (by decide +kernel), true, rfl, iteT ?_⟩
          refine ⟨_, rfl, c, rfl, ⟨_, SqT.of hc'⟩, ?_⟩
          refine for_tup (K := K) (a := c) (xs := cvs) (fun i σ H2 => ∃ l2 y3, σ = [some (.ref p), some (.ref l2), some (.ref c), y3] ∧ Same H' H2 ∧ H2 l2 = some (.lst (((("wait" : Str) :: e :: (cs.take i).flatMap chW).map V.str)))) ⟨l', _, rfl, fun _ _ e => e, hl⟩ (fun i σ H2 _ q => ?_) ?_ ?_
          · obtain ⟨_, _, _, q, _⟩ := q
            exact SqT.of (q _ _ hc')
          · rintro i x σ H2 hx ⟨l2, y3, rfl, sm2, hl2⟩
            have hi : i < cs.length := by
              have := (List.getElem?_eq_some_iff.mp hx).1
              omega
            obtain ⟨b, eb, hb⟩ := chs_get hcs (List.getElem?_eq_getElem hi)
            rw [hx] at eb
            have eb := Option.some.inj eb
            subst eb
            have hb2 := sm2 _ _ (sm _ _ hb)
            have hpm : Pt.num cs[i].2.2 ∈ (Ins.wt e cs).pts := by
              refine List.mem_cons_of_mem _ (List.mem_cons_of_mem _ (List.mem_flatMap.mpr ⟨cs[i], List.getElem_mem hi, ?_⟩))
              simp [ptsOf]
            refine ⟨_, rfl, _, rfl, b, _, _, _, rfl, rfl, SqT.of hb2, atI_nat (j := 0) rfl, _, rfl, b, _, _, _, rfl, rfl, SqT.of hb2, atI_nat (j := 1) rfl, _, rfl, b, _, _, _, rfl, rfl, SqT.of hb2, atI_nat (j := 2) rfl, _, rfl, log_small (hf.1 _ hpm), by show 3 ≤ sizeLine; decide, fun u nu => ?_⟩
            have s3 := same_upd (o := .lst [V.str cs[i].1, V.str cs[i].2.1, V.str (Str.ofString (toString ((cs[i].2.2 : Nat) : Int)))]) nu
            have hl3 := s3 _ _ hl2
            have lft : ((cs.take i).flatMap chW).length ≤ (cs.flatMap chW).length := by
              have e : cs.flatMap chW = (cs.take i).flatMap chW ++ (cs.drop i).flatMap chW := by
                rw [← List.flatMap_append, List.take_append_drop]
              rw [e, List.length_append]
              omega
            have lw : (Ins.wt e cs).words.length = 2 + (cs.flatMap chW).length := by
              show (("wait" : Str) :: e :: cs.flatMap chW).length = _
              rw [List.length_cons, List.length_cons]
              omega
            refine ⟨l2, u, _, _, rfl, rfl, hl3, upd_same, ?_, fun q hq => ?_⟩
            · rw [List.length_map, List.length_cons, List.length_cons]
              exact Nat.le_trans (show _ + 3 ≤ 200000 by omega) (by decide)
            · refine ⟨q, _, rfl, Same.trans sm2 (Same.trans s3 (same_upd hq)), ?_⟩
              rw [upd_same, flat_take chW (List.getElem?_eq_getElem hi)]
              simp only [List.map_cons, List.map_append, List.cons_append]
              rfl
          · rintro σ H2 ⟨l2, y3, rfl, sm2, hl2⟩
            refine ⟨l2, _, _, rfl, Same.trans sm sm2, sm2 _ _ hT', .inr (.inr ⟨rfl, ?_⟩)⟩
            rw [hl2, lcs, List.take_length]
            rfl
        · cases hx
      · rintro σ H' ⟨l', y2, y3, rfl, sm, hT', hl⟩
        rcases hl with ⟨q, _⟩ | ⟨q, _⟩ | ⟨_, hl⟩
        · cases q
        · cases q
        · exact fin _ H' l' _ _ p rfl sm hl
end
end OS

namespace OS
open PySem PySem.Spec PyProof.Rows L2
section
variable {P : Program} {w : World} {K : PySem.W.Frag} {mg : Str → Option Value} {base : Heap}
theorem fdiv_nn {a b : Int} (ha : 0 ≤ a) (hb : 0 < b) : 0 ≤ a.fdiv b := by
  rw [Int.fdiv_eq_ediv_of_nonneg _ (by omega)]
  exact Int.ediv_nonneg ha (by omega)
/-! ### _law_take -/
theorem ok_law_take {f : Addr} {fd : FuncData} (F : Fun K "_law_take" "_law_take" s__law_take f fd) (T : Txt K mg) : FnOk P w K mg base CX0 1 f fd ["tape", "many"] spTake := by
  refine F.ok sc__law_take (fun vs H Q E h => ?_) (fun cdv A outer s H vs Q E hr h => ?_)
  · obtain ⟨d, c, m, rfl, _⟩ := h
    rfl
  · obtain ⟨d, c, m, rfl, hT, hm, hm2, k⟩ := h
    have hu := hu_of hr
    refine ⟨_, (Evl.pss_cut (ps_if (PW.pt (pw_and (pt_cmpR op_eq (pe_dget hu (pv 0) pe_str (fun _ _ => rfl)) pe_int (nomark _)) (pw_and1 (pt_cmpR op_lt (pe_dget hu (pv 0) pe_str (fun _ _ => rfl)) (pe_callB call_len_seq (by rfl) T.len PySem.boot_len (pa_cons (pe_dget hu (pv 0) pe_str (fun _ _ => rfl)) pa_nil)) (nomark _))))) (pss_cons (ps_dput hu (pv 0) pe_str (pe_ix ix_list (pe_dget hu (pv 0) pe_str (fun _ _ => rfl)) (pe_dget hu (pv 0) pe_str (fun _ _ => rfl)) (fun _ _ => rfl)) rfl)
      (pss_one (ps_dput hu (pv 0) pe_str (pe_op op_add (pe_dget hu (pv 0) pe_str (fun _ _ => rfl)) pe_int) rfl))) pss_nil)
      (pss_cons (ps_if (pt_cmpR op_gt (pe_dget hu (pv 0) pe_str (fun _ _ => rfl)) pe_int (nomark _)) (pss_cons (ps_set (i := 2) sc__law_take.nd rfl (.inl rfl) (pe_op op_modN (pe_callTy call_int1 (by rfl) T.int (by decide +kernel) (pa_cons (pe_dget hu (pv 0) pe_str (fun _ _ => rfl)) pa_nil)) (pv 1)))
      (pss_cons (ps_dput hu (pv 0) pe_str (pe_op op_fdivN (pe_dget hu (pv 0) pe_str (fun _ _ => rfl)) (pv 1)) rfl)
      (pss_one (ps_ret (pv 2))))) pss_nil)
      (pss_cons (ps_dput hu (pv 0) pe_str (pe_op op_add (pe_dget hu (pv 0) pe_str (fun _ _ => rfl)) pe_int) rfl)
      (pss_cons (ps_set (i := 3) sc__law_take.nd rfl (.inl rfl) (pe_op op_modN (pe_callTy call_int1 (by rfl) T.int (by decide +kernel) (pa_cons (pe_op op_add (pe_op op_mul (pe_dget hu (pv 0) pe_str (fun _ _ => rfl)) pe_int) (pe_op op_mul (pe_dget hu (pv 0) pe_str (fun _ _ => rfl)) pe_int)) pa_nil)) pe_int))
      (pss_cons (ps_set (i := 3) sc__law_take.nd rfl (.inl rfl) (pe_op op_modN (pe_callTy call_int1 (by rfl) T.int (by decide +kernel) (pa_cons (pe_op op_add (pe_op op_add (pe_op op_mul (pv 3) (pv 3)) (pe_op op_mul (pe_dget hu (pv 0) pe_str (fun _ _ => rfl)) pe_int)) pe_int) pa_nil)) pe_int))
      (pss_one (ps_ret (pe_op op_modN (pe_callTy call_int1 (by rfl) T.int (by decide +kernel) (pa_cons (pv 3) pa_nil)) (pv 1))))))))), ?_⟩
    refine ⟨fun σ H1 => σ = [some (.ref d), some (.int m), none, none] ∧ Tape H1 d c ∧ Off d H H1, ?_, ?_⟩
    · obtain ⟨ns, i, l, se, sa, t⟩ := id hT
      refine ⟨_, rfl, d, _, rfl, t.gleft, rfl, _, rfl, ?_⟩
      refine ite2 (fun c1 => ?_) (fun c1 => ?_)
      · refine ⟨_, rfl, d, _, rfl, t.gat, _, rfl, d, _, rfl, t.gcells, c, _, rfl, .inl (SqL.of t.hc), _, _, rfl, rfl, _, rfl, ?_⟩
        rw [List.length_map]
        refine ite2 (fun c2 => ?_) (fun c2 => ?_)
        · have c2 : (i : Int) < (ns.length : Int) := of_decide_eq_true c2
          have hi : i < ns.length := by omega
          have g : (ns.map V.int)[i]? = some (.int ns[i]) := by
            rw [List.getElem?_map, List.getElem?_eq_getElem hi]
            rfl
          refine ⟨_, rfl, d, _, rfl, t.gcells, _, rfl, d, _, rfl, t.gat, c, _, _, _, rfl, rfl, SqL.of t.hc, atI_nat g, _, rfl, d, _, rfl, t.pleft _, ?_⟩
          have t1 := t.set (j := i) (l := ns[i]) (s := sa) t.hi (t.hn _ (List.getElem_mem hi)) t.ht
          refine ⟨_, rfl, d, _, rfl, t1.gat, _, _, rfl, rfl, _, rfl, d, _, rfl, t1.pat _, ?_⟩
          have t2 := t1.set (j := i + 1) (l := ns[i]) (s := sa) (by omega) t1.hl t.ht
          exact ⟨rfl, ⟨ns, i + 1, _, _, _, t2⟩, off_upd.trans off_upd⟩
        · exact ⟨rfl, hT, .refl⟩
      · exact iteF ⟨rfl, hT, .refl⟩
    · rintro σ H1 ⟨rfl, hT, hO⟩
      obtain ⟨ns, i, l, se, sa, t⟩ := id hT
      refine ⟨_, rfl, d, _, rfl, t.gleft, _, _, rfl, rfl, _, rfl, ?_⟩
      refine ite2 (fun c1 => ?_) (fun c1 => ?_)
      · have c1 : 0 < l := of_decide_eq_true c1
        refine ⟨_, rfl, d, _, rfl, t.gleft, .inl ⟨_, rfl, _, rfl, _, _, rfl, rfl, by omega, ?_⟩⟩
        refine ⟨_, rfl, d, _, rfl, t.gleft, _, rfl, _, _, rfl, rfl, ⟨by omega, by omega⟩, _, rfl, d, _, rfl, t.pleft _, ?_⟩
        have t1 := t.set (j := i) (l := l.fdiv m) (s := sa) t.hi (fdiv_nn t.hl hm) t.ht
        exact ⟨_, rfl, k _ _ (Int.fmod_nonneg_of_pos _ hm) (Int.fmod_lt_of_pos _ hm) ⟨ns, i, _, _, _, t1⟩ (hO.trans off_upd)⟩
      · refine ⟨_, rfl, d, _, rfl, t.gsalt, _, _, rfl, rfl, _, rfl, d, _, rfl, t.psalt _, ?_⟩
        have t1 := t.set (j := i) (l := l) (s := sa + 1) t.hi t.hl (by have := t.ht; omega)
        have hs := t.hs
        refine ⟨_, rfl, d, _, rfl, t1.gseed, _, _, rfl, rfl, .inl ⟨by omega, by omega⟩, ?_⟩
        refine ⟨_, rfl, d, _, rfl, t1.gsalt, _, _, rfl, rfl, .inr ⟨by decide, by decide⟩, _, _, rfl, rfl, .inl ⟨_, rfl, _, _, rfl, rfl, (by show (2147483647 : Int) ≠ 0; decide), ?_⟩⟩
        have b1 := Int.fmod_nonneg_of_pos (se * 48271 + (sa + 1) * 69621) (show (0 : Int) < 2147483647 by decide)
        have b2 := Int.fmod_lt_of_pos (se * 48271 + (sa + 1) * 69621) (show (0 : Int) < 2147483647 by decide)
        refine ⟨_, rfl, _, rfl, _, _, rfl, rfl, .inl ⟨by omega, by omega⟩, ?_⟩
        refine ⟨_, rfl, d, _, rfl, t1.gsalt, _, _, rfl, rfl, .inr ⟨by decide, by decide⟩, _, _, rfl, rfl, _, _, rfl, rfl, .inl ⟨_, rfl, _, _, rfl, rfl, (by show (2147483399 : Int) ≠ 0; decide), ?_⟩⟩
        refine ⟨_, rfl, .inl ⟨_, rfl, _, rfl, _, _, rfl, rfl, by omega, ?_⟩⟩
        exact k _ _ (Int.fmod_nonneg_of_pos _ hm) (Int.fmod_lt_of_pos _ hm) ⟨ns, i, _, _, _, t1⟩ (hO.trans off_upd)
/-! ### _law_tape -/
theorem ok_law_tape {f : Addr} {fd : FuncData} (F : Fun K "_law_tape" "_law_tape" s__law_tape f fd) (T : Txt K mg) : FnOk P w K mg base CX0 1 f fd ["script"] (spTape K) := by
  refine F.ok sc__law_tape (fun vs H Q E h => ?_) (fun cdv A outer s H vs Q E hr h => ?_)
  · obtain ⟨a, ns, rfl, _⟩ := h
    rfl
  · obtain ⟨a, ns, rfl, hS, h63, k⟩ := h
    have hu := hu_of hr
    have hgn : ∀ {i : Nat} {x : V}, (ns.map V.int)[i]? = some x → ∃ n, ns[i]? = some n ∧ x = .int n := fun {i x} hi => by
      rw [List.getElem?_map] at hi
      cases e : ns[i]? with
      | none => rw [e] at hi; cases hi
      | some n => rw [e] at hi; exact ⟨n, rfl, (Option.some.inj hi).symm⟩
    refine ⟨_, (pss_cons (ps_setLc (i := 2) (own := [("cell", 1)]) (g := gName 1) (by rfl) sc__law_tape.nd rfl rfl (sw_true rfl rfl rfl (by decide +kernel)) (pi_list (pv 0)) (blkOk_by (N := ["script", "cell", "cells", "seed"]) (sc := defScope s__law_tape) (by decide +kernel)) (fun _ _ _ _ _ => pg_name (i := 1) sc__law_tape.nd rfl (by first | exact Or.inl rfl | exact Or.inr rfl)) (fun _ _ _ _ _ => pts_nil) (fun _ _ _ _ _ => (pe_callB call_abs (by rfl) T.abs (by decide +kernel) (pa_cons (pe_callTy call_int1 (by rfl) T.int (by decide +kernel) (pa_cons (pv 1) pa_nil)) pa_nil))))
      (pss_cons (ps_set (i := 3) sc__law_tape.nd rfl (.inl rfl) pe_int)
      (pss_cons (ps_for PassesOwn.never rfl (pi_list (pv 2)) (pg_name (i := 1) sc__law_tape.nd rfl (.inl rfl)) (pss_one (ps_set (i := 3) sc__law_tape.nd rfl (.inl rfl) (pe_op op_modN (pe_callTy call_int1 (by rfl) T.int (by decide +kernel) (pa_cons (pe_op op_add (pe_op op_mul (pv 3) pe_int) (pv 1)) pa_nil)) pe_int))))
      (pss_one (ps_ret (pe_disp (pps_cons pe_str (pv 2) (pps_cons pe_str pe_int (pps_cons pe_str pe_int (pps_cons pe_str (pv 3) (pps_cons pe_str pe_int pps_nil))))) (by rfl) (by rfl) (fun z => by cases z) (by decide))))))), ?_⟩
    refine ⟨_, rfl, a, rfl, ⟨_, hS⟩, fun D nD => ?_⟩
    refine lc_list (K := K) (a := a) (xs := ns.map V.int) (fun i H1 => Same H H1 ∧ ∃ ms : List Int, H1 D = some (.lst (ms.map V.int)) ∧ ms.length = i ∧ ∀ n ∈ ms, 0 ≤ n)
      ⟨same_upd nD, [], upd_same, rfl, fun n h => by cases h⟩ (fun i H1 _ h => h.1.seq hS) ?_ ?_
    · rintro i x H1 hi ⟨sm, ms, hD, hl, hn⟩
      obtain ⟨n, en, rfl⟩ := hgn hi
      have hi2 : i < ns.length := (List.getElem?_eq_some_iff.mp en).1
      refine ⟨rfl, iteT (B := True) ?_⟩
      refine ⟨_, rfl, .inl ⟨_, rfl, _, rfl, _, hD, ?_, ?_⟩⟩
      · rw [List.length_map]
        exact sz6' (by omega)
      · refine ⟨fun b o e => ?_, ms ++ [if n < 0 then -n else n], ?_, ?_, ?_⟩
        · rw [upd_ne (ne_of_none e nD)]
          exact sm _ _ e
        · rw [upd_same, List.map_append]
          rfl
        · rw [List.length_append, hl]
          rfl
        · intro y hy
          rcases List.mem_append.mp hy with hy | hy
          · exact hn y hy
          · rw [List.mem_singleton.mp hy]
            split <;> omega
    · rintro H1 ⟨sm, ms, hD, hl, hn⟩
      rw [List.length_map] at hl
      refine ⟨_, rfl, D, rfl, ⟨_, SqL.of hD⟩, for_list (K := K) (a := D) (xs := ms.map V.int) (fun i σ H2 => ∃ (y : Option V) (sd : Int), σ = [some (.ref a), y, some (.ref D), some (.int sd)] ∧ 0 ≤ sd ∧ sd < 2 ^ 62 ∧ H2 = H1)
        ⟨_, 7, rfl, by decide, by decide, rfl⟩ (fun i σ H2 _ ⟨_, _, _, _, _, e⟩ => by rw [e]; exact SqL.of hD) ?_ ?_⟩
      · rintro i x σ H2 hi ⟨y, sd, rfl, h0, h1, rfl⟩
        obtain ⟨n, en, rfl⟩ : ∃ n, ms[i]? = some n ∧ x = .int n := by
          rw [List.getElem?_map] at hi
          cases e : ms[i]? with
          | none => rw [e] at hi; cases hi
          | some n => rw [e] at hi; exact ⟨n, rfl, (Option.some.inj hi).symm⟩
        refine ⟨_, rfl, _, _, rfl, rfl, .inl ⟨by omega, by omega⟩, _, rfl, _, _, rfl, rfl, .inl ⟨_, rfl, _, _, rfl, rfl, (by show (2147483647 : Int) ≠ 0; decide), ?_⟩⟩
        have b1 := Int.fmod_nonneg_of_pos (sd * 31 + n) (show (0 : Int) < 2147483647 by decide)
        have b2 := Int.fmod_lt_of_pos (sd * 31 + n) (show (0 : Int) < 2147483647 by decide)
        exact ⟨_, _, rfl, b1, by omega, rfl⟩
      · rintro σ H2 ⟨y, sd, rfl, h0, h1, rfl⟩
        intro d hd
        refine ⟨_, rfl, _, rfl, upd_same, tapeD D 0 0 sd 0, rfl, (by show 5 ≤ 15; decide), ?_⟩
        have hDd : D ≠ d := ne_of_none hD hd
        have t : TapeIs (upd (upd H2 d (.dK [])) d (.dK (mergeK [] (tapeD D 0 0 sd 0)))) d D ms 0 0 sd 0 := by
          refine ⟨?_, ?_, Nat.zero_le _, hn, by decide, ⟨h0, h1⟩, by decide⟩
          · rw [upd_same, merge_tape]
            rfl
          · rw [upd_ne hDd, upd_ne hDd]
            exact hD
        refine k d D _ (fun b o e => ?_) (sm.free hd) nD ⟨ms, 0, 0, sd, 0, t⟩
        rw [upd_ne (ne_of_none (sm _ _ e) hd), upd_ne (ne_of_none (sm _ _ e) hd)]
        exact sm _ _ e
end
section
variable {P : Program} {w : World} {K : PySem.W.Frag} {mg : Str → Option Value} {base : Heap}
/-! ### _law_is_integer, _law_same_items, _law_same: equal data are the same -/
def spIsInt : Sp := fun vs H Q _ => ∃ i : Int, vs = [.int i] ∧ Q (.bl true) H
def spSame (K : PySem.W.Frag) (n : Nat) : Sp := fun vs H Q _ => ∃ (v u : V) (d : Dt), vs = [v, u] ∧ At K H d v ∧ At K H d u ∧ dep d < n ∧ narrow d ∧ Q (.bl true) H
/-- a row of data, in a list or a tuple -/
def RowAt (K : PySem.W.Frag) (H : Hp) (a : Addr) (vs : List V) : Prop := H a = some (.lst vs) ∨ H a = some (.tup vs)
theorem RowAt.seq {H : Hp} {a : Addr} {vs : List V} (h : RowAt K H a vs) : SqL K H a vs ∨ SqT K H a vs := by
  rcases h with h | h
  · exact .inl (SqL.of h)
  · exact .inr (SqT.of h)
def spItems (K : PySem.W.Frag) (n : Nat) : Sp := fun vs H Q _ => ∃ (p q : Addr) (xs ys : List V) (ds : List Dt), vs = [.ref p, .ref q] ∧ RowAt K H p xs ∧ RowAt K H q ys ∧ AtL K H ds xs ∧ AtL K H ds ys ∧
  (∀ d ∈ ds, dep d < n ∧ narrow d) ∧ ds.length ≤ 100000 ∧ Q (.bl true) H
theorem ok_law_is_integer {f : Addr} {fd : FuncData} (F : Fun K "_law_is_integer" "_law_is_integer" s__law_is_integer f fd) (T : Txt K mg) : FnOk P w K mg base CX0 1 f fd ["actual"] spIsInt := by
  refine F.ok sc__law_is_integer (fun vs H Q E h => ?_) (fun cdv A outer s H vs Q E hr h => ?_)
  · obtain ⟨i, rfl, _⟩ := h
    rfl
  · obtain ⟨i, rfl, k⟩ := h
    refine ⟨_, (pss_one (ps_ret (pe_and (pe_callB call_isi (by rfl) T.isinstance (by decide +kernel) (pa_cons (pv 0) (pa_cons (pe_bltn (v := .ty "int") (u := Value.type "int") (by rfl) T.int (by decide +kernel) rfl) pa_nil))) (pe_one (pe_not (pe_callB call_isi (by rfl) T.isinstance (by decide +kernel) (pa_cons (pv 0) (pa_cons (pe_bltn (v := .ty "bool") (u := Value.type "bool") (by rfl) T.bool (by decide +kernel) rfl) pa_nil)))))))), ?_⟩
    refine ⟨_, rfl, _, _, .type "int", .type "int", true, rfl, .ty _, .base (.int i), kit_ty (by decide +kernel), true, rfl, iteT ?_⟩
    exact ⟨_, rfl, _, _, .type "int", .type "bool", false, rfl, .ty _, .base (.int i), kit_ty (by decide +kernel), false, rfl, k⟩
theorem ok_law_same_items {f : Addr} {fd : FuncData} (F : Fun K "_law_same_items" "_law_same_items" s__law_same_items f fd) (T : Txt K mg) (n : Nat) {f__law_same : Addr} {d__law_same : FuncData} (c__law_same : Cal P w K mg base (2*n) "_law_same" ["actual", "expected"] (spSame K n) f__law_same d__law_same) : FnOk P w K mg base CX0 (2*n+1) f fd ["actual", "expected"] (spItems K n) := by
  refine F.ok sc__law_same_items (fun vs H Q E h => ?_) (fun cdv A outer s H vs Q E hr h => ?_)
  · obtain ⟨p, q, xs, ys, ds, rfl, _⟩ := h
    rfl
  · obtain ⟨p, q, xs, ys, ds, rfl, hp, hq, hx, hy, hd, hl, k⟩ := h
    have lx := hx.length
    have ly := hy.length
    refine ⟨_, (pss_cons (ps_if (pt_cmpR op_ne (pe_callB call_len_seq (by rfl) T.len PySem.boot_len (pa_cons (pv 0) pa_nil)) (pe_callB call_len_seq (by rfl) T.len PySem.boot_len (pa_cons (pv 1) pa_nil)) (nomark _)) (pss_one (ps_ret pe_bl)) pss_nil)
      (pss_cons (ps_for PassesOwn.never rfl (pi_range1 (by rfl) T.range (pa_cons (pe_callB call_len_seq (by rfl) T.len PySem.boot_len (pa_cons (pv 1) pa_nil)) pa_nil)) (pg_name (i := 2) sc__law_same_items.nd rfl (.inl rfl)) (pss_one (ps_if (pt_not (pt_val (pe_call c__law_same.G (hr.mono (by omega)) (by rfl) c__law_same.m c__law_same.k c__law_same.b .nil pass0 (pa_cons (pe_ix ix_seq (pv 0) (pv 2) (fun _ _ => rfl)) (pa_cons (pe_ix ix_seq (pv 1) (pv 2) (fun _ _ => rfl)) pa_nil))))) (pss_one (ps_ret pe_bl)) pss_nil)))
      (pss_one (ps_ret pe_bl)))), ?_⟩
    refine ⟨_, rfl, p, _, rfl, hp.seq, _, rfl, q, _, rfl, hq.seq, rfl, _, rfl, ?_⟩
    rw [lx, ly, decide_eq_true rfl]
    refine iteF ?_
    refine ⟨_, rfl, q, _, rfl, hq.seq, (ds.length : Int), by rw [ly], by omega, by omega, ?_⟩
    refine for_range (n := (ds.length : Int).toNat) (fun i σ H' => H' = H ∧ ∃ y, σ = [some (.ref p), some (.ref q), y]) ⟨rfl, none, rfl⟩ ?_ ?_
    · rintro i σ H' hi ⟨rfl, y, rfl⟩
      have hi : i < ds.length := by omega
      obtain ⟨v, ev, hv⟩ := hx.get (List.getElem?_eq_getElem hi)
      obtain ⟨u, eu, hu⟩ := hy.get (List.getElem?_eq_getElem hi)
      have hm := hd ds[i] (List.getElem_mem hi)
      have e0 : (0 : Int) + (i : Int) = ((i : Nat) : Int) := Int.zero_add _
      have ix : ∀ {a : Addr} {zs : List V} {x : V}, RowAt K H' a zs → zs[i]? = some x → ∀ R : VK, R x H' → rIx K (.ref a) (.int (0 + (i : Int))) H' R := fun {a zs x} h e R r => by
        rw [e0]
        rcases h with h | h
        · exact .inl ⟨a, _, _, _, rfl, rfl, SqL.of h, atI_nat e, r⟩
        · exact .inr (.inl ⟨a, _, _, _, rfl, rfl, SqT.of h, atI_nat e, r⟩)
      refine ⟨_, rfl, _, rfl, ix hp ev _ ?_⟩
      refine ⟨_, rfl, _, rfl, ix hq eu _ ?_⟩
      exact ⟨v, u, ds[i], rfl, hv, hu, hm.1, hm.2, true, rfl, iteF ⟨rfl, _, rfl⟩⟩
    · rintro σ H' ⟨rfl, y, rfl⟩
      exact k
theorem ok_law_same {f : Addr} {fd : FuncData} (F : Fun K "_law_same" "_law_same" s__law_same f fd) (T : Txt K mg) (n : Nat) {f__law_is_integer : Addr} {d__law_is_integer : FuncData} (c__law_is_integer : Cal P w K mg base 1 "_law_is_integer" ["actual"] spIsInt f__law_is_integer d__law_is_integer) {f__law_same_items : Addr} {d__law_same_items : FuncData} (c__law_same_items : Cal P w K mg base (2*n+1) "_law_same_items" ["actual", "expected"] (spItems K n) f__law_same_items d__law_same_items) : FnOk P w K mg base CX0 (2*n+2) f fd ["actual", "expected"] (spSame K (n+1)) := by
  refine F.ok sc__law_same (fun vs H Q E h => ?_) (fun cdv A outer s H vs Q E hr h => ?_)
  · obtain ⟨v, u, d, rfl, _⟩ := h
    rfl
  · obtain ⟨v, u, d, rfl, hv, hu, hd, hn, k⟩ := h
    refine ⟨_, (pss_cons (ps_if (pt_cmpR op_isN (pv 1) pe_non (nomark _)) (pss_one (ps_ret (pe_cmpR op_isN (pv 0) pe_non (nomark _)))) pss_nil)
      (pss_cons (ps_if (pt_val (pe_callB call_isi (by rfl) T.isinstance (by decide +kernel) (pa_cons (pv 1) (pa_cons (pe_bltn (v := .ty "bool") (u := Value.type "bool") (by rfl) T.bool (by decide +kernel) rfl) pa_nil)))) (pss_one (ps_ret (pe_and (pe_callB call_isi (by rfl) T.isinstance (by decide +kernel) (pa_cons (pv 0) (pa_cons (pe_bltn (v := .ty "bool") (u := Value.type "bool") (by rfl) T.bool (by decide +kernel) rfl) pa_nil))) (pe_one (pe_cmpR op_eq (pv 0) (pv 1) (nomark _)))))) pss_nil)
      (pss_cons (ps_if (pt_val (pe_callB call_isi (by rfl) T.isinstance (by decide +kernel) (pa_cons (pv 1) (pa_cons (pe_bltn (v := .ty "int") (u := Value.type "int") (by rfl) T.int (by decide +kernel) rfl) pa_nil)))) (pss_one (ps_ret (pe_and (pe_call c__law_is_integer.G (hr.mono (by omega)) (by rfl) c__law_is_integer.m c__law_is_integer.k c__law_is_integer.b .nil pass0 (pa_cons (pv 0) pa_nil)) (pe_one (pe_cmpR op_eq (pv 0) (pv 1) (nomark _)))))) pss_nil)
      (pss_cons (ps_if (pt_val (pe_callB call_isi (by rfl) T.isinstance (by decide +kernel) (pa_cons (pv 1) (pa_cons (pe_bltn (v := .ty "str") (u := Value.type "str") (by rfl) T.str (by decide +kernel) rfl) pa_nil)))) (pss_one (ps_ret (pe_and (pe_callB call_isi (by rfl) T.isinstance (by decide +kernel) (pa_cons (pv 0) (pa_cons (pe_bltn (v := .ty "str") (u := Value.type "str") (by rfl) T.str (by decide +kernel) rfl) pa_nil))) (pe_one (pe_cmpR op_eq (pv 0) (pv 1) (nomark _)))))) pss_nil)
      (pss_cons (ps_if (pt_val (pe_callB call_isi (by rfl) T.isinstance (by decide +kernel) (pa_cons (pv 1) (pa_cons (pe_bltn (v := .ty "tuple") (u := Value.type "tuple") (by rfl) T.tuple (by decide +kernel) rfl) pa_nil)))) (pss_one (ps_ret (pe_and (pe_callB call_isi (by rfl) T.isinstance (by decide +kernel) (pa_cons (pv 0) (pa_cons (pe_bltn (v := .ty "tuple") (u := Value.type "tuple") (by rfl) T.tuple (by decide +kernel) rfl) pa_nil))) (pe_one (pe_call c__law_same_items.G (hr.mono (by omega)) (by rfl) c__law_same_items.m c__law_same_items.k c__law_same_items.b .nil pass0 (pa_cons (pv 0) (pa_cons (pv 1) pa_nil))))))) pss_nil)
      (pss_cons (ps_if (pt_val (pe_callB call_isi (by rfl) T.isinstance (by decide +kernel) (pa_cons (pv 1) (pa_cons (pe_bltn (v := .ty "list") (u := Value.type "list") (by rfl) T.list (by decide +kernel) rfl) pa_nil)))) (pss_one (ps_ret (pe_and (pe_callB call_isi (by rfl) T.isinstance (by decide +kernel) (pa_cons (pv 0) (pa_cons (pe_bltn (v := .ty "list") (u := Value.type "list") (by rfl) T.list (by decide +kernel) rfl) pa_nil))) (pe_one (pe_call c__law_same_items.G (hr.mono (by omega)) (by rfl) c__law_same_items.m c__law_same_items.k c__law_same_items.b .nil pass0 (pa_cons (pv 0) (pa_cons (pv 1) pa_nil))))))) pss_nil)
      pss_never)))))), ?_⟩
    cases d with
    | non =>
      unfold At at hv hu
      subst hv hu
      exact ⟨_, rfl, rfl, _, rfl, iteT ⟨_, rfl, rfl, k⟩⟩
    | bl b =>
      unfold At at hv hu
      subst hv hu
      refine ⟨_, rfl, rfl, _, rfl, iteF ?_⟩
      refine ⟨_, rfl, _, _, .type "bool", .type "bool", true, rfl, .ty _, .base (.bl b), kit_ty (by decide +kernel), true, rfl, iteT ?_⟩
      refine ⟨_, rfl, _, _, .type "bool", .type "bool", true, rfl, .ty _, .base (.bl b), kit_ty (by decide +kernel), true, rfl, iteT ?_⟩
      refine ⟨_, rfl, _, rfl, rfl, ?_⟩
      rw [decide_eq_true rfl]
      exact k
    | int i =>
      unfold At at hv hu
      subst hv hu
      refine ⟨_, rfl, rfl, _, rfl, iteF ?_⟩
      refine ⟨_, rfl, _, _, .type "int", .type "bool", false, rfl, .ty _, .base (.int i), kit_ty (by decide +kernel), false, rfl, iteF ?_⟩
      refine ⟨_, rfl, _, _, .type "int", .type "int", true, rfl, .ty _, .base (.int i), kit_ty (by decide +kernel), true, rfl, iteT ?_⟩
      refine ⟨_, rfl, i, rfl, true, rfl, iteT ?_⟩
      refine ⟨_, rfl, _, rfl, rfl, ?_⟩
      rw [decide_eq_true rfl]
      exact k
    | str x =>
      unfold At at hv hu
      subst hv hu
      refine ⟨_, rfl, rfl, _, rfl, iteF ?_⟩
      refine ⟨_, rfl, _, _, .type "str", .type "bool", false, rfl, .ty _, .base (.str x), kit_ty (by decide +kernel), false, rfl, iteF ?_⟩
      refine ⟨_, rfl, _, _, .type "str", .type "int", false, rfl, .ty _, .base (.str x), kit_ty (by decide +kernel), false, rfl, iteF ?_⟩
      refine ⟨_, rfl, _, _, .type "str", .type "str", true, rfl, .ty _, .base (.str x), kit_ty (by decide +kernel), true, rfl, iteT ?_⟩
      refine ⟨_, rfl, _, _, .type "str", .type "str", true, rfl, .ty _, .base (.str x), kit_ty (by decide +kernel), true, rfl, iteT ?_⟩
      refine ⟨_, rfl, _, rfl, rfl, ?_⟩
      rw [decide_eq_true rfl]
      exact k
    | tup xs =>
      unfold At at hv hu
      obtain ⟨p, vs, rfl, hp, hx⟩ := hv
      obtain ⟨q, ys, rfl, hq, hy⟩ := hu
      unfold dep at hd
      unfold narrow at hn
      refine ⟨_, rfl, rfl, _, rfl, iteF ?_⟩
      refine ⟨_, rfl, _, _, .type "tuple", .type "bool", false, rfl, .ty _, .base (.tup hq), kit_ty (by decide +kernel), false, rfl, iteF ?_⟩
      refine ⟨_, rfl, _, _, .type "tuple", .type "int", false, rfl, .ty _, .base (.tup hq), kit_ty (by decide +kernel), false, rfl, iteF ?_⟩
      refine ⟨_, rfl, _, _, .type "tuple", .type "str", false, rfl, .ty _, .base (.tup hq), kit_ty (by decide +kernel), false, rfl, iteF ?_⟩
      refine ⟨_, rfl, _, _, .type "tuple", .type "tuple", true, rfl, .ty _, .base (.tup hq), kit_ty (by decide +kernel), true, rfl, iteT ?_⟩
      refine ⟨_, rfl, _, _, .type "tuple", .type "tuple", true, rfl, .ty _, .base (.tup hp), kit_ty (by decide +kernel), true, rfl, iteT ?_⟩
      exact ⟨_, rfl, _, rfl, p, q, vs, ys, xs, rfl, .inr hp, .inr hq, hx, hy, deep_of hd hn.2, hn.1, k⟩
    | lst xs =>
      unfold At at hv hu
      obtain ⟨p, vs, rfl, hp, hx⟩ := hv
      obtain ⟨q, ys, rfl, hq, hy⟩ := hu
      unfold dep at hd
      unfold narrow at hn
      refine ⟨_, rfl, rfl, _, rfl, iteF ?_⟩
      refine ⟨_, rfl, _, _, .type "list", .type "bool", false, rfl, .ty _, .base (.lst hq), kit_ty (by decide +kernel), false, rfl, iteF ?_⟩
      refine ⟨_, rfl, _, _, .type "list", .type "int", false, rfl, .ty _, .base (.lst hq), kit_ty (by decide +kernel), false, rfl, iteF ?_⟩
      refine ⟨_, rfl, _, _, .type "list", .type "str", false, rfl, .ty _, .base (.lst hq), kit_ty (by decide +kernel), false, rfl, iteF ?_⟩
      refine ⟨_, rfl, _, _, .type "list", .type "tuple", false, rfl, .ty _, .base (.lst hq), kit_ty (by decide +kernel), false, rfl, iteF ?_⟩
      refine ⟨_, rfl, _, _, .type "list", .type "list", true, rfl, .ty _, .base (.lst hq), kit_ty (by decide +kernel), true, rfl, iteT ?_⟩
      refine ⟨_, rfl, _, _, .type "list", .type "list", true, rfl, .ty _, .base (.lst hp), kit_ty (by decide +kernel), true, rfl, iteT ?_⟩
      exact ⟨_, rfl, _, rfl, p, q, vs, ys, xs, rfl, .inl hp, .inl hq, hx, hy, deep_of hd hn.2, hn.1, k⟩
/-- nothing can be asked at depth 0 -/
theorem same_none {f : Addr} {fd : FuncData} {ps : List Str} : FnOk P w K mg base CX0 (2*0) f fd ps (spSame K 0) := by
  have no : ∀ vs H Q E, ¬ spSame K 0 vs H Q E := fun vs H Q E h => by
    obtain ⟨v, u, d, _, _, _, h, _⟩ := h
    omega
  exact ⟨fun vs H Q E h => absurd h (no vs H Q E), fun A outer s H args us vs Q E _ _ _ _ h => absurd h (no vs H Q E)⟩
theorem same_all {f1 f2 f3 : Addr} {d1 d2 d3 : FuncData} (T : Txt K mg) (F1 : Fun K "_law_is_integer" "_law_is_integer" s__law_is_integer f1 d1) (b1 : Binds K d1 ["actual"] []) (m1 : mg "_law_is_integer" = some (.ref f1))
    (F2 : Fun K "_law_same_items" "_law_same_items" s__law_same_items f2 d2) (b2 : Binds K d2 ["actual", "expected"] []) (m2 : mg "_law_same_items" = some (.ref f2))
    (F3 : Fun K "_law_same" "_law_same" s__law_same f3 d3) (b3 : Binds K d3 ["actual", "expected"] []) (m3 : mg "_law_same" = some (.ref f3)) :
    ∀ n : Nat, FnOk P w K mg base CX0 (2*n) f3 d3 ["actual", "expected"] (spSame K n)
  | 0 => same_none
  | n + 1 => by
    have ih := same_all T F1 b1 m1 F2 b2 m2 F3 b3 m3 n
    exact ok_law_same F3 T n ⟨ok_law_is_integer F1 T, b1, F1.kp, m1⟩ ⟨ok_law_same_items F2 T n ⟨ih, b3, F3.kp, m3⟩, b2, F2.kp, m2⟩
end
theorem pick_of {xs : List V} {r : Int} (h0 : 0 ≤ r) (h1 : r < (xs.length : Int)) : ∃ x ∈ xs, atI xs r = some x := by
  obtain ⟨i, rfl⟩ := Int.eq_ofNat_of_zero_le h0
  have hi : i < xs.length := by omega
  exact ⟨xs[i], List.getElem_mem hi, atI_nat (List.getElem?_eq_getElem hi)⟩
/-- tuples and lists stand as they were -/
def Rws (H H' : Hp) : Prop := (∀ b xs, H b = some (.tup xs) → H' b = some (.tup xs)) ∧ ∀ b xs, H b = some (.lst xs) → H' b = some (.lst xs)
mutual
theorem At.rws {K : PySem.W.Frag} {H H' : Hp} (s : Rws H H') : ∀ {d : Dt} {v : V}, At K H d v → At K H' d v
  | .non, v, h => by unfold At at h ⊢; exact h
  | .bl b, v, h => by unfold At at h ⊢; exact h
  | .int i, v, h => by unfold At at h ⊢; exact h
  | .str x, v, h => by unfold At at h ⊢; exact h
  | .tup xs, v, h => by
    unfold At at h ⊢
    obtain ⟨p, vs, e, hp, hl⟩ := h
    exact ⟨p, vs, e, s.1 _ _ hp, AtL.rws s hl⟩
  | .lst xs, v, h => by
    unfold At at h ⊢
    obtain ⟨p, vs, e, hp, hl⟩ := h
    exact ⟨p, vs, e, s.2 _ _ hp, AtL.rws s hl⟩
theorem AtL.rws {K : PySem.W.Frag} {H H' : Hp} (s : Rws H H') : ∀ {ds : List Dt} {vs : List V}, AtL K H ds vs → AtL K H' ds vs
  | [], vs, h => by unfold AtL at h ⊢; exact h
  | d :: ds, vs, h => by
    unfold AtL at h ⊢
    obtain ⟨v, r, e, hd, hl⟩ := h
    exact ⟨v, r, e, At.rws s hd, AtL.rws s hl⟩
end
theorem Rws.trans {H H1 H2 : Hp} (a : Rws H H1) (b : Rws H1 H2) : Rws H H2 := ⟨fun x xs h => b.1 _ _ (a.1 _ _ h), fun x xs h => b.2 _ _ (a.2 _ _ h)⟩
theorem Same.rws {H H' : Hp} (s : Same H H') : Rws H H' := ⟨fun x xs h => s _ _ h, fun x xs h => s _ _ h⟩
theorem Tape.rws {H H' : Hp} {d c : Addr} (hT : Tape H d c) (q : Kept d H H') : Rws H H' := by
  obtain ⟨ns, i, l, se, sa, t⟩ := hT
  exact ⟨fun b xs h => q b _ (ne_of h t.hd (by intro z; cases z)) h, fun b xs h => q b _ (ne_of h t.hd (by intro z; cases z)) h⟩
end OS

namespace OS
open PySem PySem.Spec PyProof.Rows L2
def chs3 (nm : Str) (g : Nat) : List (Str × Str × Nat) := [("go", nm, g), ("no", nm, g), ("x9", nm, g)]
def menuL (nm : Str) (g k : Nat) (t : Str) : List Ins :=
  [.pl "push" [.num g], .pl "load" [.nam nm], .pl "store" [.nam nm], .pl "add" [], .pl "sub" [], .pl "mul" [], .pl "less" [], .pl "same" [],
   .pl "jump" [.num g], .pl "zero" [.num g], .pl "emit" [.nam "b", .nam nm], .wt "b" ((chs3 nm g).take k), .pl "input" [.nam nm],
   .pl "round" [.num 3, .num g], .pl "yes" [.num 3], .pl "no" [.num 12], .pl "test" [.nam t], .pl "stop" []]
def nms : List Str := ["n", "m_1", "Total"]
def gls : List Nat := [0, 7, 4294967295]
def tys : List Str := ["yes", "no"]
def drawn (a : Ins) : Prop := ∃ nm ∈ nms, ∃ g ∈ gls, ∃ k ∈ [1, 2, 3], ∃ t ∈ tys, a ∈ menuL nm g k t
def chk (a : Ins) : Bool := decide (readWs a.words = some a) && (a.words.all fun x => !(x.cps.toList.contains 32) && !(x.cps.toList.contains 10)) && !((TL.tl a.line).contains 10) && decide (a.size ≤ 100) && (a.pts.all fun p => match p with | .num n => decide (n < 10 ^ 10) | .nam _ => true) &&
  (match a with | .pl w _ => !decide (w = "wait") | .wt _ _ => true)
theorem chk_all : (nms.all fun nm => gls.all fun g => [1, 2, 3].all fun k => tys.all fun t => (menuL nm g k t).all chk) = true := by decide +kernel
theorem drawn_chk {a : Ins} (h : drawn a) : chk a = true := by
  obtain ⟨nm, h1, g, h2, k, h3, t, h4, h5⟩ := h
  exact List.all_eq_true.mp (List.all_eq_true.mp (List.all_eq_true.mp (List.all_eq_true.mp (List.all_eq_true.mp chk_all nm h1) g h2) k h3) t h4) a h5
theorem drawn_ok {a : Ins} (h : drawn a) : good a ∧ fine a ∧ a.size ≤ 100 := by
  have c := drawn_chk h
  unfold chk at c
  simp only [Bool.and_eq_true] at c
  obtain ⟨⟨⟨⟨⟨c1, c2⟩, c3⟩, c4⟩, c5⟩, c6⟩ := c
  refine ⟨⟨?_, read_line (of_decide_eq_true c1) fun x hx => ?_⟩, ⟨fun n hn => ?_, fun w ps e q => ?_⟩, of_decide_eq_true c4⟩
  · rw [Bool.not_eq_true'] at c3
    intro q
    rw [List.contains_iff_mem.mpr q] at c3
    cases c3
  · have := List.all_eq_true.mp c2 x hx
    rw [Bool.and_eq_true, Bool.not_eq_true'] at this
    intro q
    rw [List.contains_iff_mem.mpr q] at this
    cases this.1
  · exact of_decide_eq_true (List.all_eq_true.mp c5 (.num n) hn)
  · subst e
    have c6 : (!decide (w = "wait")) = true := c6
    rw [decide_eq_true q] at c6
    cases c6
/-- data gathered while drawing, lists that stand -/
structure Acc (K : PySem.W.Frag) (d c : Addr) (H0 H : Hp) (ds : List Dt) (vs : List V) (ms : List (Addr × List V)) : Prop where
  A : AtL K H ds vs
  T : Tape H d c
  k : Kept d H0 H
  L : ∀ m ∈ ms, H m.1 = some (.lst m.2)
section
variable {K : PySem.W.Frag} {d c p : Addr} {H0 H H' : Hp} {ds es : List Dt} {vs us xs : List V} {ms : List (Addr × List V)} {o : HO}
theorem Acc.put (a : Acc K d c H0 H ds vs ms) (hp : H p = none) : Acc K d c H0 (upd H p o) ds vs ms :=
  ⟨AtL.keep (same_upd hp) a.A, a.T.keep (same_upd hp), a.k.trans (Kept.of (same_upd hp)), fun m hm => same_upd hp _ _ (a.L m hm)⟩
theorem Acc.tup (a : Acc K d c H0 H ds vs ms) (hp : H p = none) (h : AtL K H es us) : Acc K d c H0 (upd H p (.tup us)) (ds ++ [.tup es]) (vs ++ [.ref p]) ms := by
  have b := a.put (o := .tup us) hp
  refine ⟨AtL.snoc ?_ b.A, b.T, b.k, b.L⟩
  unfold At
  exact ⟨p, us, rfl, upd_same, AtL.keep (same_upd hp) h⟩
theorem Acc.lst (a : Acc K d c H0 H ds vs ms) (hp : H p = none) : Acc K d c H0 (upd H p (.lst xs)) ds vs ((p, xs) :: ms) := by
  have b := a.put (o := .lst xs) hp
  refine ⟨b.A, b.T, b.k, fun m hm => ?_⟩
  rcases List.mem_cons.mp hm with rfl | hm
  · exact upd_same
  · exact b.L m hm
theorem Acc.take (a : Acc K d c H0 H ds vs ms) (T' : Tape H' d c) (o : Off d H H') : Acc K d c H0 H' ds vs ms :=
  ⟨AtL.rws (a.T.rws o.kept) a.A, T', a.k.trans o.kept, fun m hm => (a.T.rws o.kept).2 _ _ (a.L m hm)⟩
theorem Acc.hd {dd : Dt} {v : V} (a : Acc K d c H0 H (dd :: ds) (v :: vs) ms) : At K H dd v := by
  have h := a.A
  unfold AtL at h
  obtain ⟨u, r, e, h1, _⟩ := h
  cases e
  exact h1
end
section
variable {P : Program} {w : World} {K : PySem.W.Frag} {mg : Str → Option Value} {base : Heap}
def spIn (K : PySem.W.Frag) : Sp := fun vs H Q _ => ∃ d c : Addr, vs = [.ref d] ∧ Tape H d c ∧ ∀ (v : V) (a : Ins) H', drawn a → At K H' a.dt v → Tape H' d c → Kept d H H' → Q v H'
theorem str_of {x : V} {l : List Str} (h : x ∈ l.map V.str) : ∃ s ∈ l, x = .str s := by
  obtain ⟨s, h1, h2⟩ := List.mem_map.mp h
  exact ⟨s, h1, h2.symm⟩
theorem int_of {x : V} {l : List Nat} (h : x ∈ l.map fun n => V.int (n : Nat)) : ∃ s ∈ l, x = .int (s : Nat) := by
  obtain ⟨s, h1, h2⟩ := List.mem_map.mp h
  exact ⟨s, h1, h2.symm⟩
set_option maxHeartbeats 8000000 in
theorem ok_law_instruction {f : Addr} {fd : FuncData} (F : Fun K "_law_instruction" "_law_instruction" s__law_instruction f fd) (T : Txt K mg) {f__law_take : Addr} {d__law_take : FuncData} (c__law_take : Cal P w K mg base 1 "_law_take" ["tape", "many"] spTake f__law_take d__law_take) : FnOk P w K mg base CX0 2 f fd ["tape"] (spIn K) := by
  refine F.ok sc__law_instruction (fun vs H Q E h => ?_) (fun cdv A outer s H vs Q E hr h => ?_)
  · obtain ⟨d, c, rfl, _⟩ := h
    rfl
  · obtain ⟨d, c, rfl, hT, k⟩ := h
    refine ⟨_, (pss_cons (ps_set (i := 1) sc__law_instruction.nd rfl (.inr rfl) (pe_ix ix_list (pe_lst (pa_cons pe_str (pa_cons pe_str (pa_cons pe_str pa_nil)))) (pe_call c__law_take.G (hr.mono (by decide)) (by rfl) c__law_take.m c__law_take.k c__law_take.b .nil pass0 (pa_cons (pv 0) (pa_cons pe_int pa_nil))) (fun _ _ => rfl)))
      (pss_cons (ps_set (i := 2) sc__law_instruction.nd rfl (.inr rfl) (pe_ix ix_list (pe_lst (pa_cons pe_int (pa_cons pe_int (pa_cons pe_int pa_nil)))) (pe_call c__law_take.G (hr.mono (by decide)) (by rfl) c__law_take.m c__law_take.k c__law_take.b .nil pass0 (pa_cons (pv 0) (pa_cons pe_int pa_nil))) (fun _ _ => rfl)))
      (pss_cons (ps_set (i := 3) sc__law_instruction.nd rfl (.inl rfl) (pe_callTy call_tuple_of (by rfl) T.tuple (by decide +kernel) (pa_cons (pe_lc (own := [("k", 5)]) (g := gName 5) (by rfl) sc__law_instruction.nd (pi_range1 (by rfl) T.range (pa_cons (pe_op op_add pe_int (pe_call c__law_take.G (hr.mono (by decide)) (by rfl) c__law_take.m c__law_take.k c__law_take.b .nil pass0 (pa_cons (pv 0) (pa_cons pe_int pa_nil)))) pa_nil)) (blkOk_by (N := ["tape", "name", "goal", "choices", "menu", "k"]) (sc := defScope s__law_instruction) (by decide +kernel)) (fun _ _ _ _ _ => pg_name (i := 5) sc__law_instruction.nd rfl (by first | exact Or.inl rfl | exact Or.inr rfl)) (fun _ _ _ _ _ => pts_nil) (fun _ _ _ _ _ => (pe_tup (pa_cons (pe_ix (show IxR _ (rIxL K) from ix_list) (pe_lst (pa_cons pe_str (pa_cons pe_str (pa_cons pe_str pa_nil)))) (pv 5) (fun _ _ => rfl)) (pa_cons (pv 1) (pa_cons (pv 2) pa_nil)))))) pa_nil)))
      (pss_cons (ps_set (i := 4) sc__law_instruction.nd rfl (.inl rfl) (pe_lst (pa_cons (pe_tup (pa_cons pe_str (pa_cons (pv 2) pa_nil))) (pa_cons (pe_tup (pa_cons pe_str (pa_cons (pv 1) pa_nil))) (pa_cons (pe_tup (pa_cons pe_str (pa_cons (pv 1) pa_nil))) (pa_cons (pe_tup (pa_cons pe_str pa_nil)) (pa_cons (pe_tup (pa_cons pe_str pa_nil)) (pa_cons (pe_tup (pa_cons pe_str pa_nil)) (pa_cons (pe_tup (pa_cons pe_str pa_nil)) (pa_cons (pe_tup (pa_cons pe_str pa_nil)) pa_nil))))))))))
      (pss_cons (ps_set (i := 4) sc__law_instruction.nd rfl (.inl rfl) (pe_op op_cat (pv 4) (pe_lst (pa_cons (pe_tup (pa_cons pe_str (pa_cons (pv 2) pa_nil))) (pa_cons (pe_tup (pa_cons pe_str (pa_cons (pv 2) pa_nil))) (pa_cons (pe_tup (pa_cons pe_str (pa_cons pe_str (pa_cons (pv 1) pa_nil)))) (pa_cons (pe_tup (pa_cons pe_str (pa_cons pe_str (pa_cons (pv 3) pa_nil)))) (pa_cons (pe_tup (pa_cons pe_str (pa_cons (pv 1) pa_nil))) pa_nil))))))))
      (pss_cons (ps_set (i := 4) sc__law_instruction.nd rfl (.inl rfl) (pe_op op_cat (pv 4) (pe_lst (pa_cons (pe_tup (pa_cons pe_str (pa_cons pe_int (pa_cons (pv 2) pa_nil)))) (pa_cons (pe_tup (pa_cons pe_str (pa_cons pe_int pa_nil))) (pa_cons (pe_tup (pa_cons pe_str (pa_cons pe_int pa_nil))) (pa_cons (pe_tup (pa_cons pe_str (pa_cons (pe_ix ix_list (pe_lst (pa_cons pe_str (pa_cons pe_str pa_nil))) (pe_call c__law_take.G (hr.mono (by decide)) (by rfl) c__law_take.m c__law_take.k c__law_take.b .nil pass0 (pa_cons (pv 0) (pa_cons pe_int pa_nil))) (fun _ _ => rfl)) pa_nil))) (pa_cons (pe_tup (pa_cons pe_str pa_nil)) pa_nil))))))))
      (pss_one (ps_ret (pe_ix ix_list (pv 4) (pe_call c__law_take.G (hr.mono (by decide)) (by rfl) c__law_take.m c__law_take.k c__law_take.b .nil pass0 (pa_cons (pv 0) (pa_cons pe_int pa_nil))) (fun _ _ => rfl)))))))))), ?_⟩
    refine ⟨by show 3 ≤ sizeLine; decide, fun l hl => ?_⟩
    refine ⟨_, rfl, d, c, 3, rfl, hT.keep (same_upd hl), by decide, by decide, fun r H1 r0 r1 T1 O1 => ?_⟩
    obtain ⟨x, hx, e⟩ := pick_of (xs := nms.map V.str) r0 r1
    refine ⟨l, _, _, _, rfl, rfl, SqL.of (by rw [O1 l (hT.ne hl).1]; exact upd_same), e, ?_⟩
    obtain ⟨nm, hnm, rfl⟩ := str_of hx
    have k1 := (Kept.of (d := d) (same_upd (o := .lst (nms.map V.str)) hl)).trans O1.kept
    refine ⟨by show 3 ≤ sizeLine; decide, fun l2 hl2 => ?_⟩
    refine ⟨_, rfl, d, c, 3, rfl, T1.keep (same_upd hl2), by decide, by decide, fun r' H2 r0' r1' T2 O2 => ?_⟩
    obtain ⟨x', hx', e'⟩ := pick_of (xs := gls.map fun n => V.int (n : Nat)) r0' r1'
    refine ⟨l2, _, _, _, rfl, rfl, SqL.of (by rw [O2 l2 (T1.ne hl2).1]; exact upd_same), e', ?_⟩
    obtain ⟨g, hg, rfl⟩ := int_of hx'
    have k2 := k1.trans ((Kept.of (d := d) (same_upd (o := .lst (gls.map fun n => V.int (n : Nat))) hl2)).trans O2.kept)
    clear e e' hx hx' r0 r1 r0' r1' O1 O2
    refine ⟨_, rfl, d, c, 3, rfl, T2, by decide, by decide, fun r H3 r0 r1 T3 O3 => ?_⟩
    obtain ⟨kk, rfl⟩ := Int.eq_ofNat_of_zero_le r0
    have hkk : kk < 3 := by omega
    have k3 := k2.trans O3.kept
    refine ⟨_, _, rfl, rfl, _, rfl, by omega, by omega, fun D nD => ?_⟩
    have Dd := T3.ne nD
    have nD0 : H D = none := by
      cases q : H D with
      | none => rfl
      | some o => rw [k3 D o Dd.1 q] at nD; cases nD
    refine lc_range (n := 1 + kk) (fun i H' => ∃ vs, H' D = some (.lst vs) ∧ AtL K H' (((chs3 nm g).take i).map chD) vs ∧ Tape H' d c ∧ Kept d H H') ⟨[], upd_same, by simp [AtL], T3.keep (same_upd nD), k3.upd nD0⟩ ?_ ?_
    · rintro i H4 hi ⟨vs, hD, hA, T4, k4⟩
      refine ⟨rfl, iteT (B := True) ⟨by show 3 ≤ sizeLine; decide, fun y hy => ?_⟩⟩
      obtain ⟨z, ez⟩ : ∃ z, ([("go" : Str), "no", "x9"] : List Str)[i]? = some z := ⟨_, List.getElem?_eq_getElem (by show i < 3; omega)⟩
      have ez2 : (chs3 nm g)[i]? = some (z, nm, g) := by
        have : i = 0 ∨ i = 1 ∨ i = 2 := by omega
        rcases this with rfl | rfl | rfl <;> (cases ez; rfl)
      have s5 := same_upd (o := .lst [V.str "go", V.str "no", V.str "x9"]) hy
      have hat : atI [V.str "go", V.str "no", V.str "x9"] (0 + ((i : Nat) : Int)) = some (V.str z) := by
        rw [Int.zero_add]
        exact atI_nat (xs := ([("go" : Str), "no", "x9"] : List Str).map V.str) (by rw [List.getElem?_map, ez]; rfl)
      refine ⟨_, rfl, y, _, _, _, rfl, rfl, SqL.of upd_same, hat, _, rfl, _, rfl, by show 3 ≤ sizeLine; decide, fun t ht => ?_⟩
      have s6 := Same.trans s5 (same_upd (o := .tup [V.str z, V.str nm, V.int (g : Nat)]) ht)
      have hD6 := s6 _ _ hD
      have kp := kpT_lst (ys := vs ++ [V.ref t]) hD6
      have lv := hA.length
      rw [List.length_map, List.length_take] at lv
      refine ⟨vs, hD6, by rw [lv]; exact sz6' (by omega), vs ++ [V.ref t], upd_same, ?_, (T4.keep s6).put Dd, (k4.trans (Kept.of s6)).upd nD0⟩
      rw [List.take_add_one, ez2, List.map_append]
      refine AtL.snoc (d := chD (z, nm, g)) (At.kpT kp (by simp [chD, tupO, tupOL]) ?_) (AtL.kpT kp (tupOL_map chD (fun c => by simp [chD, tupO, tupOL]) _) (AtL.keep s6 hA))
      simp only [chD, At, AtL]
      exact ⟨t, _, rfl, upd_same, _, _, rfl, rfl, _, _, rfl, rfl, _, _, rfl, rfl, rfl⟩
    · rintro H4 ⟨vs, hD, hA, T4, k4⟩
      refine ⟨D, vs, rfl, .inl ⟨SqL.of hD, fun tc htc => ?_⟩⟩
      have a0 : Acc K d c H (upd H4 tc (.tup vs)) [.tup (((chs3 nm g).take (1 + kk)).map chD)] [.ref tc] [] := by
        have a : Acc K d c H H4 [] [] [] := ⟨by simp [AtL], T4, k4, fun m hm => by cases hm⟩
        exact a.tup htc hA
      clear hA hD T4 k4
      generalize upd H4 tc (.tup vs) = H5 at a0
      refine ⟨_, rfl, by show 2 ≤ sizeLine; decide, fun p1 h1 => ?_⟩
      have a1 := a0.tup h1 (es := [.str "push", .int (g : Nat)]) (us := [.str "push", .int (g : Nat)]) (by simp [AtL, At])
      clear a0
      refine ⟨_, rfl, by show 2 ≤ sizeLine; decide, fun p2 h2 => ?_⟩
      have a2 := a1.tup h2 (es := [.str "load", .str nm]) (us := [.str "load", .str nm]) (by simp [AtL, At])
      clear a1
      refine ⟨_, rfl, by show 2 ≤ sizeLine; decide, fun p3 h3 => ?_⟩
      have a3 := a2.tup h3 (es := [.str "store", .str nm]) (us := [.str "store", .str nm]) (by simp [AtL, At])
      clear a2
      refine ⟨by show 1 ≤ sizeLine; decide, fun p4 h4 => ?_⟩
      have a4 := a3.tup h4 (es := [.str "add"]) (us := [.str "add"]) (by simp [AtL, At])
      clear a3
      refine ⟨by show 1 ≤ sizeLine; decide, fun p5 h5 => ?_⟩
      have a5 := a4.tup h5 (es := [.str "sub"]) (us := [.str "sub"]) (by simp [AtL, At])
      clear a4
      refine ⟨by show 1 ≤ sizeLine; decide, fun p6 h6 => ?_⟩
      have a6 := a5.tup h6 (es := [.str "mul"]) (us := [.str "mul"]) (by simp [AtL, At])
      clear a5
      refine ⟨by show 1 ≤ sizeLine; decide, fun p7 h7 => ?_⟩
      have a7 := a6.tup h7 (es := [.str "less"]) (us := [.str "less"]) (by simp [AtL, At])
      clear a6
      refine ⟨by show 1 ≤ sizeLine; decide, fun p8 h8 => ?_⟩
      have a8 := a7.tup h8 (es := [.str "same"]) (us := [.str "same"]) (by simp [AtL, At])
      clear a7
      refine ⟨by show 8 ≤ sizeLine; decide, fun m1 g1 => ?_⟩
      have b1 := a8.lst (xs := [.ref p1, .ref p2, .ref p3, .ref p4, .ref p5, .ref p6, .ref p7, .ref p8]) g1
      clear a8
      have a8 := b1
      clear b1
      refine ⟨_, rfl, ?_⟩
      refine ⟨_, rfl, by show 2 ≤ sizeLine; decide, fun p9 h9 => ?_⟩
      have a9 := a8.tup h9 (es := [.str "jump", .int (g : Nat)]) (us := [.str "jump", .int (g : Nat)]) (by simp [AtL, At])
      clear a8
      refine ⟨_, rfl, by show 2 ≤ sizeLine; decide, fun p10 h10 => ?_⟩
      have a10 := a9.tup h10 (es := [.str "zero", .int (g : Nat)]) (us := [.str "zero", .int (g : Nat)]) (by simp [AtL, At])
      clear a9
      refine ⟨_, rfl, by show 3 ≤ sizeLine; decide, fun p11 h11 => ?_⟩
      have a11 := a10.tup h11 (es := [.str "emit", .str "b", .str nm]) (us := [.str "emit", .str "b", .str nm]) (by simp [AtL, At])
      clear a10
      refine ⟨_, rfl, by show 3 ≤ sizeLine; decide, fun p12 h12 => ?_⟩
      have a12 := a11.tup h12 (es := [.str "wait", .str "b", .tup (((chs3 nm g).take (1 + kk)).map chD)]) (us := [.str "wait", .str "b", .ref tc]) (by simp only [AtL]; exact ⟨_, _, rfl, by simp [At], _, _, rfl, by simp [At], _, _, rfl, a11.hd, rfl⟩)
      clear a11
      refine ⟨_, rfl, by show 2 ≤ sizeLine; decide, fun p13 h13 => ?_⟩
      have a13 := a12.tup h13 (es := [.str "input", .str nm]) (us := [.str "input", .str nm]) (by simp [AtL, At])
      clear a12
      refine ⟨by show 5 ≤ sizeLine; decide, fun m2 g2 => ?_⟩
      have b1 := a13.lst (xs := [.ref p9, .ref p10, .ref p11, .ref p12, .ref p13]) g2
      clear a13
      refine ⟨m1, m2, _, _, rfl, rfl, b1.L (m1, _) (List.mem_cons_of_mem _ (List.mem_cons_self ..)), b1.L (m2, _) (List.mem_cons_self ..), by show 13 ≤ sizeLine; decide, fun m3 g3 => ?_⟩
      have b2 := b1.lst (xs := [.ref p1, .ref p2, .ref p3, .ref p4, .ref p5, .ref p6, .ref p7, .ref p8, .ref p9, .ref p10, .ref p11, .ref p12, .ref p13]) g3
      clear b1
      have a13 := b2
      clear b2
      refine ⟨_, rfl, ?_⟩
      refine ⟨_, rfl, by show 3 ≤ sizeLine; decide, fun p14 h14 => ?_⟩
      have a14 := a13.tup h14 (es := [.str "round", .int 3, .int (g : Nat)]) (us := [.str "round", .int 3, .int (g : Nat)]) (by simp [AtL, At])
      clear a13
      refine ⟨by show 2 ≤ sizeLine; decide, fun p15 h15 => ?_⟩
      have a15 := a14.tup h15 (es := [.str "yes", .int 3]) (us := [.str "yes", .int 3]) (by simp [AtL, At])
      clear a14
      refine ⟨by show 2 ≤ sizeLine; decide, fun p16 h16 => ?_⟩
      have a16 := a15.tup h16 (es := [.str "no", .int 12]) (us := [.str "no", .int 12]) (by simp [AtL, At])
      clear a15
      refine ⟨by show 2 ≤ sizeLine; decide, fun ly hly => ?_⟩
      have b1 := a16.lst (xs := tys.map V.str) hly
      refine ⟨_, rfl, d, c, 2, rfl, b1.T, by decide, by decide, fun r2 H7 r20 r21 T7 O7 => ?_⟩
      have b2 := b1.take T7 O7
      obtain ⟨x2, hx2, e2⟩ := pick_of (xs := tys.map V.str) r20 r21
      obtain ⟨ty, hty, rfl⟩ := str_of hx2
      refine ⟨ly, _, _, _, rfl, rfl, SqL.of (b2.L (ly, _) (List.mem_cons_self ..)), e2, ?_⟩
      clear a16 b1
      have a16 := b2
      clear b2
      refine ⟨by show 2 ≤ sizeLine; decide, fun p17 h17 => ?_⟩
      have a17 := a16.tup h17 (es := [.str "test", .str ty]) (us := [.str "test", .str ty]) (by simp [AtL, At])
      clear a16
      refine ⟨by show 1 ≤ sizeLine; decide, fun p18 h18 => ?_⟩
      have a18 := a17.tup h18 (es := [.str "stop"]) (us := [.str "stop"]) (by simp [AtL, At])
      clear a17
      refine ⟨by show 5 ≤ sizeLine; decide, fun m4 g4 => ?_⟩
      have b1 := a18.lst (xs := [.ref p14, .ref p15, .ref p16, .ref p17, .ref p18]) g4
      clear a18
      refine ⟨m3, m4, _, _, rfl, rfl, b1.L (m3, _) (List.mem_cons_of_mem _ (List.mem_cons_of_mem _ (List.mem_cons_self ..))), b1.L (m4, _) (List.mem_cons_self ..), by show 18 ≤ sizeLine; decide, fun m5 g5 => ?_⟩
      have b2 := b1.lst (xs := [.ref p1, .ref p2, .ref p3, .ref p4, .ref p5, .ref p6, .ref p7, .ref p8, .ref p9, .ref p10, .ref p11, .ref p12, .ref p13, .ref p14, .ref p15, .ref p16, .ref p17, .ref p18]) g5
      clear b1
      refine ⟨_, rfl, _, rfl, d, c, 18, rfl, b2.T, by decide, by decide, fun r3 H8 r30 r31 T8 O8 => ?_⟩
      have b3 := b2.take T8 O8
      clear b2
      obtain ⟨i3, rfl⟩ := Int.eq_ofNat_of_zero_le r30
      have hi3 : i3 < 18 := by omega
      have hA : AtL K H8 (.tup (((chs3 nm g).take (1 + kk)).map chD) :: (menuL nm g (1 + kk) ty).map Ins.dt) (.ref tc :: [.ref p1, .ref p2, .ref p3, .ref p4, .ref p5, .ref p6, .ref p7, .ref p8, .ref p9, .ref p10, .ref p11, .ref p12, .ref p13, .ref p14, .ref p15, .ref p16, .ref p17, .ref p18]) := b3.A
      obtain ⟨a, ea⟩ : ∃ a, (menuL nm g (1 + kk) ty)[i3]? = some a := ⟨_, List.getElem?_eq_getElem (by show i3 < 18; exact hi3)⟩
      obtain ⟨v, ev, hv⟩ := hA.get (i := i3 + 1) (d := a.dt) (by rw [List.getElem?_cons_succ, List.getElem?_map, ea]; rfl)
      rw [List.getElem?_cons_succ] at ev
      refine ⟨m5, _, _, _, rfl, rfl, SqL.of (b3.L (m5, _) (List.mem_cons_self ..)), atI_nat ev, ?_⟩
      refine k v a H8 ⟨nm, hnm, g, hg, 1 + kk, ?_, ty, hty, List.mem_of_getElem? ea⟩ hv b3.T b3.k
      have : kk = 0 ∨ kk = 1 ∨ kk = 2 := by omega
      rcases this with rfl | rfl | rfl <;> simp
end
end OS

namespace OS
open PySem PySem.Spec PyProof.Rows L2
theorem cutS_len (z : Str) (lo hi : Option Int) : (cutS z lo hi).length ≤ z.length := by
  unfold cutS
  show (((z.cps.toList.drop _).take _).toArray).size ≤ _
  rw [List.size_toArray, List.length_take, List.length_drop, len_cps]
  omega
def mores : List Str := ["", " ", "\n", "7", "0", "x", "go no 1", "-", "4294967296", "push 1\n", "yes", "_"]
theorem mores_len : ∀ x ∈ mores, x.length ≤ 15 := by decide +kernel
/-- the error's class is what its clause names -/
theorem exm_is {K : PySem.W.Frag} {S : Addr} (hb : PySem.W.subIn K (.ref S) (.type "BaseException") = some true) (hc : PySem.W.isClsIn K S = true) (ht : PySem.W.typeIn K (.ref S) = some (.type "type")) (hs : PySem.W.subIn K (.ref S) (.ref S) = some true) : PySem.W.exmOne K (.ref S) (.ref S) = some true := by
  unfold PySem.W.isClsIn at hc
  simp [PySem.W.exmOne, PySem.W.kitCls, hb, hc, ht, hs]
section
variable {P : Program} {w : World} {K : PySem.W.Frag} {mg : Str → Option Value} {base : Heap} {CS : Addr}
def spBent : Sp := fun vs H Q _ => ∃ (d c : Addr) (z : Str), vs = [.ref d, .str z] ∧ z.length ≤ 15000 ∧ Tape H d c ∧ ∀ (y : Str) H', y.length ≤ 40000 → Tape H' d c → Kept d H H' → Q (.str y) H'
theorem ok_law_bent {f : Addr} {fd : FuncData} (F : Fun K "_law_bent" "_law_bent" s__law_bent f fd) (T : Txt K mg) {f__law_take : Addr} {d__law_take : FuncData} (c__law_take : Cal P w K mg base 1 "_law_take" ["tape", "many"] spTake f__law_take d__law_take) : FnOk P w K mg base CX0 2 f fd ["tape", "text"] spBent := by
  refine F.ok sc__law_bent (fun vs H Q E h => ?_) (fun cdv A outer s H vs Q E hr h => ?_)
  · obtain ⟨d, c, z, rfl, _⟩ := h
    rfl
  · obtain ⟨d, c, z, rfl, hz, hT, k⟩ := h
    refine ⟨_, (pss_cons (ps_set (i := 2) sc__law_bent.nd rfl (.inl rfl) (pe_call c__law_take.G (hr.mono (by decide)) (by rfl) c__law_take.m c__law_take.k c__law_take.b .nil pass0 (pa_cons (pv 0) (pa_cons (pe_op op_add (pe_callB call_len_str (by rfl) T.len PySem.boot_len (pa_cons (pv 1) pa_nil)) pe_int) pa_nil))))
      (pss_cons (ps_set (i := 3) sc__law_bent.nd rfl (.inl rfl) (pe_ix ix_list (pe_lst (pa_cons pe_str (pa_cons pe_str (pa_cons pe_str (pa_cons pe_str (pa_cons pe_str (pa_cons pe_str (pa_cons pe_str (pa_cons pe_str (pa_cons pe_str (pa_cons pe_str (pa_cons pe_str (pa_cons pe_str pa_nil))))))))))))) (pe_call c__law_take.G (hr.mono (by decide)) (by rfl) c__law_take.m c__law_take.k c__law_take.b .nil pass0 (pa_cons (pv 0) (pa_cons pe_int pa_nil))) (fun _ _ => rfl)))
      (pss_cons (ps_if (pt_cmpR op_eq (pe_call c__law_take.G (hr.mono (by decide)) (by rfl) c__law_take.m c__law_take.k c__law_take.b .nil pass0 (pa_cons (pv 0) (pa_cons pe_int pa_nil))) pe_int (nomark _)) (pss_one (ps_ret (pe_slice sl_str (pv 1) po_none (po_some (pe_un un_neg pe_int))))) pss_nil)
      (pss_one (ps_ret (pe_op op_add_str (pe_op op_add_str (pe_slice sl_str (pv 1) po_none (po_some (pv 2))) (pv 3)) (pe_slice sl_str (pv 1) (po_some (pe_op op_add (pv 2) (pe_call c__law_take.G (hr.mono (by decide)) (by rfl) c__law_take.m c__law_take.k c__law_take.b .nil pass0 (pa_cons (pv 0) (pa_cons pe_int pa_nil))))) po_none))))))), ?_⟩
    have hz' : z.length ≤ 100000 := by omega
    refine ⟨_, rfl, _, rfl, z, rfl, sz6 hz', _, _, rfl, rfl, d, c, _, rfl, hT, by omega, by omega, fun r H1 r0 r1 T1 O1 => ?_⟩
    refine ⟨by show 12 ≤ sizeLine; decide, fun l hl => ?_⟩
    refine ⟨_, rfl, d, c, 12, rfl, T1.keep (same_upd hl), by decide, by decide, fun r2 H2 r20 r21 T2 O2 => ?_⟩
    obtain ⟨x, hx, e⟩ := pick_of (xs := mores.map V.str) r20 r21
    obtain ⟨mo, hmo, rfl⟩ := str_of hx
    refine ⟨l, _, _, _, rfl, rfl, SqL.of (by rw [O2 l (T1.ne hl).1]; exact upd_same), e, ?_⟩
    have k2 := O1.kept.trans ((Kept.of (d := d) (same_upd (o := .lst (mores.map V.str)) hl)).trans O2.kept)
    have lm := mores_len mo hmo
    refine ⟨_, rfl, d, c, 6, rfl, T2, by decide, by decide, fun r3 H3 r30 r31 T3 O3 => ⟨rfl, _, rfl, ?_⟩⟩
    have k3 := k2.trans O3.kept
    refine ite2 (fun _ => ?_) (fun _ => ?_)
    · refine ⟨_, rfl, _, rfl, _, rfl, z, rfl, sz6 hz', ?_⟩
      refine k _ H3 ?_ T3 k3
      have := cutS_len z none (some (-1))
      omega
    · refine ⟨_, rfl, _, rfl, _, rfl, z, rfl, sz6 hz', _, rfl, _, _, rfl, rfl, ?_, ?_⟩
      · have := cutS_len z none (some r)
        exact Nat.le_trans (show _ ≤ 100000 by omega) (by decide)
      refine ⟨_, rfl, _, rfl, _, rfl, d, c, 3, rfl, T3, by decide, by decide, fun r4 H4 r40 r41 T4 O4 => ?_⟩
      refine ⟨_, _, rfl, rfl, _, rfl, z, rfl, sz6 hz', _, _, rfl, rfl, ?_, ?_⟩
      · have h1 := cutS_len z none (some r)
        have h2 := cutS_len z (some (r + r4)) none
        rw [Str.length_append]
        exact Nat.le_trans (show _ ≤ 100000 by omega) (by decide)
      · refine k _ H4 ?_ T4 (k3.trans O4.kept)
        have h1 := cutS_len z none (some r)
        have h2 := cutS_len z (some (r + r4)) none
        rw [Str.length_append, Str.length_append]
        omega
def spRead (K : PySem.W.Frag) : Sp := fun vs H Q _ => ∃ z : Str, vs = [.str z] ∧ z.length ≤ 50000 ∧
  (∀ L p v H', Lns z.cps.toList 0 L none → L.length ≤ z.length → Same H H' → H' p = some (.tup [.str "code", v]) → At K H' (.tup (L.map Ins.dt)) v → Q (.ref p) H') ∧
  ∀ L j p H', Lns z.cps.toList 0 L (some j) → Same H H' → H' p = some (.tup [.str "wrong", .int (j : Nat)]) → Q (.ref p) H'
theorem ok_law_read {f : Addr} {fd : FuncData} (F : Fun K "_law_read" "_law_read" s__law_read f fd) (T : Txt K mg) (R : XfC K CS) (hno : PySem.W.findIn K (.ref CS) "start" = some none) (te : PySem.W.exmOne K (.ref CS) (.ref CS) = some true) (gC : mg "SyntaxProblem" = some (.ref CS)) {f_read_code : Addr} {d_read_code : FuncData} (c_read_code : CalX P w K mg base 7 "read_code" ["text"] (spCode K CS) f_read_code d_read_code) : FnOk P w K mg base CX0 8 f fd ["text"] (spRead K) := by
  refine F.ok sc__law_read (fun vs H Q E h => ?_) (fun cdv A outer s H vs Q E hr h => ?_)
  · obtain ⟨z, rfl, _⟩ := h
    rfl
  · obtain ⟨z, rfl, hz, k1, k2⟩ := h
    have hr1 : Room 7 _ := hr.mono (by decide)
    refine ⟨_, pss_one (ps_try_as (i := 1) (tb := fun W => tRet (tTup (tCons (tC (.str "code")) (tCons (tCallS (spCode K CS) (WE W) (tCons (tVar 0) tNil)) tNil)))) (ts := fun a cls d => tRet (tTup (tCons (tC (.str "wrong")) (tCons (tXf a cls d CS "start" (tVar 1)) tNil)))) (Wout := fun _ _ _ _ => False) rfl rfl sc__law_read.nd rfl rfl ⟨rfl, by decide, .inl gC⟩ takes0
      (fun W pn xe tk _ => pss_one (ps_ret (pe_tup (pa_cons pe_str (pa_cons (by exact (pe_callS c_read_code.G hr1 rfl c_read_code.m c_read_code.k c_read_code.b (fun σ => passAt tk σ) (by exact (pa_cons (pv 0) pa_nil)))) pa_nil)))))
      (fun a oe cls d pn hz hf => pss_one (ps_ret (pe_tup (pa_cons pe_str (pa_cons (by exact (pe_xf R hno hz hf (pv 1))) pa_nil)))))), ?_⟩
    refine ⟨_, rfl, z, rfl, hz, fun L v H' hl hle hat sm => ?_, fun L j d H' hl sm hx => ?_⟩
    · refine ⟨by show 2 ≤ sizeLine; decide, fun p np => ?_⟩
      exact k1 L p v _ hl hle (Same.trans sm (same_upd np)) upd_same (hat.keep (same_upd np))
    · refine ⟨true, te, fun _ a0 ha0 => ?_, fun q => Bool.noConfusion q⟩
      obtain ⟨dd, e1, e2⟩ := hx
      refine ⟨_, rfl, rfl, rfl, dd, _, _, e1, e2, by rw [List.lookup_cons, beq_self_eq_true], by show 2 ≤ sizeLine; decide, fun p np => ?_⟩
      exact k2 L j p _ hl (Same.trans sm (same_upd np)) upd_same
end
end OS

namespace OS
open PySem PySem.Spec PyProof.Rows L2
theorem passF {X : Cx} : Passes (L2.CX X.prog X.w) X E0 := fun _ _ _ _ _ _ _ c => by
  obtain ⟨_, _, _, _, _, _, _, _, _, _, _, _, z⟩ := c
  exact z.elim

theorem inV_int (k : Nat) : ∀ l : List Nat, inV (.int (k : Nat)) (l.map fun n => V.int (n : Nat)) = decide (k ∈ l)
  | [] => by simp [inV]
  | c :: cs => by
    have ih := inV_int k cs
    unfold inV at ih ⊢
    rw [List.map_cons, List.any_cons, ih]
    have e : eqV (.int (c : Nat)) (.int (k : Nat)) = decide (c = k) := by
      show ((c : Int) == (k : Int)) = _
      by_cases h : c = k
      · rw [decide_eq_true h, h]; exact beq_self_eq_true _
      · rw [decide_eq_false h]; exact beq_eq_false_iff_ne.mpr fun q => h (by omega)
    rw [e]
    by_cases h : c = k
    · subst h; simp
    · rw [decide_eq_false h, Bool.false_or]
      refine decide_eq_decide.mpr ⟨fun q => List.mem_cons_of_mem _ q, fun q => ?_⟩
      rcases List.mem_cons.mp q with q | q
      · exact absurd q.symm h
      · exact q
theorem flat_ints (l : List Nat) : (l.map fun n => V.int (n : Nat)).all flatV = true := by
  rw [List.all_map, List.all_eq_true]
  intro _ _
  rfl
theorem flat_strs (l : List Str) : (l.map V.str).all flatV = true := by
  rw [List.all_map, List.all_eq_true]
  intro _ _
  rfl
/-- depth and width of code -/
theorem pt_dep (ps : List Pt) : depL (ps.map Pt.dt) = 0 := by
  induction ps with
  | nil => rfl
  | cons p ps ih =>
    rw [List.map_cons]
    unfold depL
    rw [ih]
    cases p <;> rfl
theorem chs_dep (cs : List (Str × Str × Nat)) : depL (cs.map chD) ≤ 1 := by
  induction cs with
  | nil => exact Nat.zero_le _
  | cons c cs ih =>
    rw [List.map_cons]
    unfold depL
    have : dep (chD c) = 1 := by simp [chD, dep, depL]
    omega
theorem ins_dep (a : Ins) : dep a.dt ≤ 3 := by
  cases a with
  | pl w ps => simp only [Ins.dt, dep, depL, pt_dep]; decide
  | wt e cs =>
    have := chs_dep cs
    simp only [Ins.dt, dep, depL]
    omega
theorem code_dep (L : List Ins) : dep (.tup (L.map Ins.dt)) < 5 := by
  have q : depL (L.map Ins.dt) ≤ 3 := by
    induction L with
    | nil => exact Nat.zero_le _
    | cons a L ih =>
      rw [List.map_cons]
      unfold depL
      have := ins_dep a
      omega
  simp only [dep]
  omega
theorem pts_narrow (ps : List Pt) : narrowL (ps.map Pt.dt) := by
  induction ps with
  | nil => simp [narrowL]
  | cons p ps ih =>
    rw [List.map_cons]
    unfold narrowL
    refine ⟨?_, ih⟩
    cases p <;> simp [Pt.dt, narrow]
theorem chs_narrow (cs : List (Str × Str × Nat)) : narrowL (cs.map chD) := by
  induction cs with
  | nil => simp [narrowL]
  | cons c cs ih =>
    rw [List.map_cons]
    unfold narrowL
    exact ⟨by simp [chD, narrow, narrowL], ih⟩
theorem ins_narrow {a : Ins} (h : a.size ≤ 90000) : narrow a.dt := by
  have hp := size_pts a
  cases a with
  | pl w ps =>
    have hl : ps.length + 1 = (Ins.pl w ps).pts.length := rfl
    simp only [Ins.dt, narrow, narrowL, List.length_cons, List.length_map]
    exact ⟨by omega, trivial, pts_narrow ps⟩
  | wt e cs =>
    have q : cs.length ≤ (cs.flatMap ptsOf).length := by
      clear hp h
      induction cs with
      | nil => exact Nat.zero_le _
      | cons c cs ih =>
        rw [List.flatMap_cons, List.length_append, List.length_cons]
        have : (ptsOf c).length = 3 := rfl
        omega
    have hl : (cs.flatMap ptsOf).length + 2 = (Ins.wt e cs).pts.length := rfl
    simp only [Ins.dt, narrow, narrowL, List.length_cons, List.length_map, List.length_nil]
    exact ⟨by omega, trivial, trivial, ⟨by omega, chs_narrow cs⟩, trivial⟩
theorem code_narrow {L : List Ins} (hl : L.length ≤ 90000) (h : ∀ a ∈ L, a.size ≤ 90000) : narrow (.tup (L.map Ins.dt)) := by
  have q : narrowL (L.map Ins.dt) := by
    clear hl
    induction L with
    | nil => simp [narrowL]
    | cons a L ih =>
      rw [List.map_cons]
      unfold narrowL
      exact ⟨ins_narrow (h a (List.mem_cons_self ..)), ih fun b hb => h b (List.mem_cons_of_mem _ hb)⟩
  simp only [narrow, List.length_map]
  exact ⟨by omega, q⟩
/-- what was read is fine -/
theorem numOf_small {z : Str} {n : Nat} (h : numOf z = some n) : n < 10 ^ 10 := by
  unfold numOf at h
  split at h
  · cases h
  · split at h
    · rename_i c
      cases h
      exact Nat.lt_of_lt_of_le c.2 (by decide)
    · cases h
theorem readPt_small {s z : Str} {n : Nat} (h : readPt s z = some (.num n)) : n < 10 ^ 10 := by
  unfold readPt at h
  split at h
  · cases e : numOf z with
    | none => rw [e] at h; cases h
    | some m => rw [e] at h; cases h; exact numOf_small e
  · split at h
    · split at h <;> cases h
    · split at h <;> cases h
theorem readPts_small {ss ws : List Str} {ps : List Pt} (h : readPts ss ws = some ps) {n : Nat} (hn : Pt.num n ∈ ps) : n < 10 ^ 10 := by
  unfold readPts at h
  split at h
  · have e := allS_some h
    have hm : some (Pt.num n) ∈ List.zipWith readPt ss ws := by
      rw [e]
      exact List.mem_map.mpr ⟨_, hn, rfl⟩
    obtain ⟨i, hi⟩ := List.mem_iff_getElem?.mp hm
    rw [List.getElem?_zipWith] at hi
    cases e1 : ss[i]? with
    | none => rw [e1] at hi; cases hi
    | some s =>
      cases e2 : ws[i]? with
      | none => rw [e1, e2] at hi; cases hi
      | some z =>
        rw [e1, e2] at hi
        exact readPt_small (Option.some.inj hi)
  · cases h
theorem readLn_fine {z : Str} {a : Ins} (h : readLn z = some a) : fine a := by
  unfold readLn at h
  obtain ⟨w, r, e⟩ := split_ne z
  rw [e] at h
  have h : (if w = "wait" then readWt r else (formOf w).bind fun ss => (readPts ss r).map (Ins.pl w)) = some a := h
  split at h
  · unfold readWt at h
    split at h
    · cases h
    · split at h
      · cases h
      · rename_i cs e2
        split at h
        · cases h
          refine ⟨fun n hn => ?_, fun w ps q => by cases q⟩
          have hn : Pt.num n ∈ cs.flatMap ptsOf := by
            rcases List.mem_cons.mp hn with q | hn
            · cases q
            · rcases List.mem_cons.mp hn with q | hn
              · cases q
              · exact hn
          obtain ⟨c, hc, hn⟩ := List.mem_flatMap.mp hn
          have e3 := allS_some e2
          have hm : some c ∈ (List.range (nch r)).map fun k => read3 (chunk r k) := by
            rw [e3]
            exact List.mem_map.mpr ⟨c, hc, rfl⟩
          obtain ⟨k, _, hk⟩ := List.mem_map.mp hm
          have e4 := read3_pts (chunk r k)
          rw [hk] at e4
          exact readPts_small (ps := ptsOf c) e4 hn
        · cases h
  · rename_i hw
    cases e2 : formOf w with
    | none => rw [e2] at h; cases h
    | some ss =>
      rw [e2] at h
      have h : (readPts ss r).map (Ins.pl w) = some a := h
      cases e3 : readPts ss r with
      | none => rw [e3] at h; cases h
      | some ps =>
        rw [e3] at h
        cases h
        refine ⟨fun n hn => ?_, fun w' ps' q => by cases q; exact hw⟩
        rcases List.mem_cons.mp hn with q | hn
        · cases q
        · exact readPts_small e3 hn
theorem good_fine {a : Ins} (h : good a) : fine a := readLn_fine h.2
theorem txt_mem {L : List Ins} {a : Ins} (h : a ∈ L) : a.line.length + 1 ≤ (txtL L).length := by
  induction L with
  | nil => cases h
  | cons b L ih =>
    have e : (txtL (b :: L)).length = b.line.length + 1 + (txtL L).length := by
      show ((TL.tl b.line ++ [10]) ++ txtL L).length = _
      rw [List.length_append, List.length_append, ← TL.len_tl]
      rfl
    rcases List.mem_cons.mp h with rfl | h
    · omega
    · have := ih h
      omega
theorem txt_len (L : List Ins) : L.length ≤ (txtL L).length := by
  induction L with
  | nil => exact Nat.zero_le _
  | cons b L ih =>
    have e : (txtL (b :: L)).length = (TL.tl b.line).length + 1 + (txtL L).length := by
      show ((TL.tl b.line ++ [10]) ++ txtL L).length = _
      rw [List.length_append, List.length_append]
      rfl
    rw [List.length_cons]
    omega
/-- read text is the text of what was read -/
theorem Lns.whole {t : List Nat} {L : List Ins} (h : Lns t 0 L none) : t = txtL L ∧ ∀ a ∈ L, good a := by
  obtain ⟨k, _, _, k3, _, k5, k6⟩ := h.stop (Nat.zero_le _)
  rcases k6 with ⟨_, e⟩ | ⟨e, _⟩ | ⟨e, _⟩
  · rw [e, List.drop_zero, List.drop_length, List.append_nil] at k3
    exact ⟨k3, k5⟩
  · cases e
  · cases e
theorem drawn_len (L : List Ins) (n : Nat) (h : ∀ a ∈ L, a.size ≤ 100) (hn : L.length ≤ n) : (txtL L).length ≤ 101 * n := by
  have q : (txtL L).length ≤ 101 * L.length := by
    clear hn
    induction L with
    | nil => exact Nat.zero_le _
    | cons b L ih =>
      have e : (txtL (b :: L)).length = b.line.length + 1 + (txtL L).length := by
        show ((TL.tl b.line ++ [10]) ++ txtL L).length = _
        rw [List.length_append, List.length_append, ← TL.len_tl]
        rfl
      have h1 := h b (List.mem_cons_self ..)
      have h2 := line_len b
      have h3 := ih fun a ha => h a (List.mem_cons_of_mem _ ha)
      rw [List.length_cons]
      omega
  have : 101 * L.length ≤ 101 * n := Nat.mul_le_mul_left _ hn
  omega
end OS

namespace OS
open PySem PySem.Spec PyProof.Rows L2
theorem cut_last {z : Str} (h : z.cps.toList[z.cps.toList.length - 1]? ≠ some 10) (hn : 0 < z.cps.toList.length) : ¬ cutS z (some (-1)) none = Str.ofString "\n" := fun q => by
  have e := congrArg TL.tl q
  rw [tl_nl] at e
  have hs : HT.sIx z.length 0 (some (-1)) = z.length - 1 := by
    unfold HT.sIx
    have := len_cps z
    first
      | (simp only []; split <;> omega)
      | (show (if _ then _ else _) = _; split <;> omega)
      | omega
  have e2 : TL.tl (cutS z (some (-1)) none) = z.cps.toList.drop (z.cps.toList.length - 1) := by
    unfold cutS
    rw [hs, HT.sIx_none, len_cps z]
    show (z.cps.toList.drop (z.cps.toList.length - 1)).take _ = _
    rw [List.take_of_length_le]
    rw [List.length_drop]
    exact Nat.le_refl _
  rw [e2] at e
  refine h ?_
  have q3 := congrArg (fun l => l[0]?) e
  simp only [List.getElem?_drop, Nat.add_zero] at q3
  exact q3
theorem cut_take {z : Str} {i : Nat} (h : i ≤ z.length) : cutS z none (some (i : Int)) = ⟨(z.cps.toList.take i).toArray⟩ := by
  unfold cutS
  rw [HT.sIx_nat, HT.sIx_none, Nat.min_eq_left h]
  rfl
theorem split_nl {p q : List Nat} (h : 10 ∉ p) : ∃ r, Txt.split ⟨(p ++ 10 :: q).toArray⟩ (Str.ofString "\n") = ⟨p.toArray⟩ :: r := by
  have e := TL.split_spl ⟨(p ++ 10 :: q).toArray⟩ (Str.ofString "\n") (by rw [tl_nl]; simp) (nl_kind _)
  rw [tl_nl] at e
  have e1 : TL.tl ⟨(p ++ 10 :: q).toArray⟩ = p ++ ([10] ++ q) := rfl
  rw [e1, TL.spl_part1 h, List.nil_append] at e
  cases e2 : Txt.split ⟨(p ++ 10 :: q).toArray⟩ (Str.ofString "\n") with
  | nil => rw [e2] at e; cases e
  | cons x r =>
    rw [e2, List.map_cons] at e
    injection e with e3 _
    exact ⟨r, by rw [TL.ext_tl (y := ⟨p.toArray⟩) e3]⟩
section
variable {P : Program} {w : World} {K : PySem.W.Frag} {mg : Str → Option Value} {base : Heap} {CS : Addr}
def spLaw (K : PySem.W.Frag) : Sp := fun vs H Q _ => ∃ (a : Addr) (ns : List Int), vs = [.ref a] ∧ SqL K H a (ns.map V.int) ∧ ns.length ≤ 63 ∧ ∀ H', Q (.bl true) H'
set_option maxHeartbeats 8000000 in
theorem ok_law {f : Addr} {fd : FuncData} (F : Fun K "law" "law" s_law f fd) (T : Txt K mg) {f__law_take : Addr} {d__law_take : FuncData} (c__law_take : Cal P w K mg base 1 "_law_take" ["tape", "many"] spTake f__law_take d__law_take) {f__law_tape : Addr} {d__law_tape : FuncData} (c__law_tape : Cal P w K mg base 1 "_law_tape" ["script"] (spTape K) f__law_tape d__law_tape) {f__law_instruction : Addr} {d__law_instruction : FuncData} (c__law_instruction : Cal P w K mg base 2 "_law_instruction" ["tape"] (spIn K) f__law_instruction d__law_instruction) {f__law_line : Addr} {d__law_line : FuncData} (c__law_line : Cal P w K mg base 1 "_law_line" ["one"] (spLL K) f__law_line d__law_line) {f_write_code : Addr} {d_write_code : FuncData} (c_write_code : Cal P w K mg base 2 "write_code" ["code"] (spWc K) f_write_code d_write_code) {f_read_code : Addr} {d_read_code : FuncData} (c_read_code : CalX P w K mg base 7 "read_code" ["text"] (spCode K CS) f_read_code d_read_code) {f__law_bent : Addr} {d__law_bent : FuncData} (c__law_bent : Cal P w K mg base 2 "_law_bent" ["tape", "text"] spBent f__law_bent d__law_bent) {f__law_read : Addr} {d__law_read : FuncData} (c__law_read : Cal P w K mg base 8 "_law_read" ["text"] (spRead K) f__law_read d__law_read) {f__law_same : Addr} {d__law_same : FuncData} (c__law_same : Cal P w K mg base 10 "_law_same" ["actual", "expected"] (spSame K 5) f__law_same d__law_same) : FnOk P w K mg base CX0 11 f fd ["script"] (spLaw K) := by
  refine F.ok sc_law (fun vs H Q E h => ?_) (fun cdv A outer s H vs Q E hr h => ?_)
  · obtain ⟨a, ns, rfl, _⟩ := h
    rfl
  · obtain ⟨a, ns, rfl, hS, h63, k⟩ := h
    refine ⟨_, (pss_cons (ps_set (i := 1) sc_law.nd rfl (.inr rfl) (pe_call c__law_tape.G (hr.mono (by decide)) (by rfl) c__law_tape.m c__law_tape.k c__law_tape.b .nil pass0 (pa_cons (pv 0) pa_nil)))
      (pss_cons (ps_set (i := 3) sc_law.nd rfl (.inl rfl) (pe_callTy call_tuple_of (by rfl) T.tuple (by decide +kernel) (pa_cons (pe_lc (own := [("k", 2)]) (g := gName 2) (by rfl) sc_law.nd (pi_range1 (by rfl) T.range (pa_cons (pe_call c__law_take.G (hr.mono (by decide)) (by rfl) c__law_take.m c__law_take.k c__law_take.b .nil pass0 (pa_cons (pv 1) (pa_cons pe_int pa_nil))) pa_nil)) (blkOk_by (N := ["script", "tape", "k", "code", "text", "bent", "word", "told", "starts", "start", "line", "one", "j"]) (sc := defScope s_law) (by decide +kernel)) (fun _ _ _ _ _ => pg_name (i := 2) sc_law.nd rfl (by first | exact Or.inl rfl | exact Or.inr rfl)) (fun _ _ _ _ _ => pts_nil) (fun _ _ _ _ _ => (pe_call c__law_instruction.G (hr.mono (by decide)) (by rfl) c__law_instruction.m c__law_instruction.k c__law_instruction.b .nil pass0 (pa_cons (pv 1) pa_nil)))) pa_nil)))
      (pss_cons (ps_set (i := 4) sc_law.nd rfl (.inl rfl) (pe_join pe_str (pe_lc (own := [("one", 11)]) (g := gName 11) (by rfl) sc_law.nd (pi_tup (pv 3)) (blkOk_by (N := ["script", "tape", "k", "code", "text", "bent", "word", "told", "starts", "start", "line", "one", "j"]) (sc := defScope s_law) (by decide +kernel)) (fun _ _ _ _ _ => pg_name (i := 11) sc_law.nd rfl (by first | exact Or.inl rfl | exact Or.inr rfl)) (fun _ _ _ _ _ => pts_nil) (fun _ _ _ _ _ => (pe_call c__law_line.G (hr.mono (by decide)) (by rfl) c__law_line.m c__law_line.k c__law_line.b .nil pass0 (pa_cons (pv 11) pa_nil))))))
      (pss_cons (ps_if (PW.pt (pw_or (pt_not (pt_val (pe_call c__law_same.G (hr.mono (by decide)) (by rfl) c__law_same.m c__law_same.k c__law_same.b .nil pass0 (pa_cons (pe_call c_write_code.G (hr.mono (by decide)) (by rfl) c_write_code.m c_write_code.k c_write_code.b .nil pass0 (pa_cons (pv 3) pa_nil)) (pa_cons (pv 4) pa_nil))))) (pw_or1 (pt_not (pt_val (pe_call c__law_same.G (hr.mono (by decide)) (by rfl) c__law_same.m c__law_same.k c__law_same.b .nil pass0 (pa_cons (pe_call c_read_code.G (hr.mono (by decide)) (by rfl) c_read_code.m c_read_code.k c_read_code.b .nil passF (pa_cons (pv 4) pa_nil)) (pa_cons (pv 3) pa_nil)))))))) (pss_one (ps_ret pe_bl)) pss_nil)
      (pss_cons (ps_for PassesOwn.never rfl (pi_range1 (by rfl) T.range (pa_cons pe_int pa_nil)) (pg_name (i := 2) sc_law.nd rfl (.inl rfl)) (pss_cons (ps_set (i := 5) sc_law.nd rfl (.inr rfl) (pe_call c__law_bent.G (hr.mono (by decide)) (by rfl) c__law_bent.m c__law_bent.k c__law_bent.b .nil pass0 (pa_cons (pv 1) (pa_cons (pv 4) pa_nil))))
      (pss_cons (ps_asg (pe_call c__law_read.G (hr.mono (by decide)) (by rfl) c__law_read.m c__law_read.k c__law_read.b .nil pass0 (pa_cons (pv 5) pa_nil)) (pg_tup (by rfl) (pgs_cons (pg_name (i := 6) sc_law.nd rfl (.inl rfl)) (pgs_cons (pg_name (i := 7) sc_law.nd rfl (.inl rfl)) pgs_nil))))
      (pss_cons (ps_if (pt_cmpR op_eq (pv 6) pe_str (nomark _)) (pss_cons (ps_if (pt_not (pt_val (pe_call c__law_same.G (hr.mono (by decide)) (by rfl) c__law_same.m c__law_same.k c__law_same.b .nil pass0 (pa_cons (pe_join pe_str (pe_lc (own := [("one", 11)]) (g := gName 11) (by rfl) sc_law.nd (pi_tup (pv 7)) (blkOk_by (N := ["script", "tape", "k", "code", "text", "bent", "word", "told", "starts", "start", "line", "one", "j"]) (sc := defScope s_law) (by decide +kernel)) (fun _ _ _ _ _ => pg_name (i := 11) sc_law.nd rfl (by first | exact Or.inl rfl | exact Or.inr rfl)) (fun _ _ _ _ _ => pts_nil) (fun _ _ _ _ _ => (pe_call c__law_line.G (hr.mono (by decide)) (by rfl) c__law_line.m c__law_line.k c__law_line.b .nil pass0 (pa_cons (pv 11) pa_nil))))) (pa_cons (pv 5) pa_nil))))) (pss_one (ps_ret pe_bl)) pss_nil)
      (pss_one ps_continue)) pss_nil)
      (pss_cons (ps_set (i := 8) sc_law.nd rfl (.inl rfl) (pe_op op_cat (pe_lst (pa_cons pe_int pa_nil)) (pe_lc (own := [("j", 12)]) (g := gName 12) (by rfl) sc_law.nd (pi_range1 (by rfl) T.range (pa_cons (pe_callB call_len_str (by rfl) T.len PySem.boot_len (pa_cons (pv 5) pa_nil)) pa_nil)) (blkOk_by (N := ["script", "tape", "k", "code", "text", "bent", "word", "told", "starts", "start", "line", "one", "j"]) (sc := defScope s_law) (by decide +kernel)) (fun _ _ _ _ _ => pg_name (i := 12) sc_law.nd rfl (by first | exact Or.inl rfl | exact Or.inr rfl)) (fun _ _ _ _ _ => (pts_one (pt_cmpR op_eq (pe_ix ix_str (pv 5) (pv 12) (fun _ _ => rfl)) pe_str (nomark _)))) (fun _ _ _ _ _ => (pe_op op_add (pv 12) pe_int)))))
      (pss_cons (ps_if (PW.pt (pw_and (pt_cmpR op_ne (pv 7) (pe_callB call_len_str (by rfl) T.len PySem.boot_len (pa_cons (pv 5) pa_nil)) (nomark _)) (pw_and1 (pt_cmpR op_notIn_seq (pv 7) (pv 8) (by rfl))))) (pss_one (ps_ret pe_bl)) pss_nil)
      (pss_cons (ps_if (PW.pt (pw_and (pt_cmpR op_eq (pv 7) (pe_callB call_len_str (by rfl) T.len PySem.boot_len (pa_cons (pv 5) pa_nil)) (nomark _)) (pw_and1 (pt_cmpR op_eq (pe_slice sl_str (pv 5) (po_some (pe_un un_neg pe_int)) po_none) pe_str (nomark _))))) (pss_one (ps_ret pe_bl)) pss_nil)
      (pss_cons (ps_set (i := 9) sc_law.nd rfl (.inl rfl) (pe_ifExp (pt_cmpR op_in_seq (pv 7) (pv 8) (by rfl)) (pv 7) (pe_ix ix_list (pv 8) (pe_un un_neg pe_int) (fun _ _ => rfl))))
      (pss_cons (ps_if (pt_cmpR op_ne (pe_ix ix_tup (pe_call c__law_read.G (hr.mono (by decide)) (by rfl) c__law_read.m c__law_read.k c__law_read.b .nil pass0 (pa_cons (pe_slice sl_str (pv 5) po_none (po_some (pv 9))) pa_nil)) pe_int (fun _ _ => rfl)) pe_str (nomark _)) (pss_one (ps_ret pe_bl)) pss_nil)
      (pss_one (ps_if (PW.pt (pw_and (pt_cmpR op_in_seq (pv 7) (pv 8) (by rfl)) (pw_and1 (pt_cmpR op_lt (pv 7) (pe_callB call_len_str (by rfl) T.len PySem.boot_len (pa_cons (pv 5) pa_nil)) (nomark _))))) (pss_cons (ps_set (i := 10) sc_law.nd rfl (.inl rfl) (pe_op op_add_str (pe_ix ix_list (pe_bm PySem.F.plainAttrs_str PySem.F.slot_str_split PySem.F.type_str_split mt_split (pe_slice sl_str (pv 5) (po_some (pv 7)) po_none) (pa_cons pe_str pa_nil)) pe_int (fun _ _ => rfl)) pe_str))
      (pss_one (ps_if (pt_cmpR op_in_seq (pv 10) (pe_lc (own := [("one", 11)]) (g := gName 11) (by rfl) sc_law.nd (pi_tup (pv 3)) (blkOk_by (N := ["script", "tape", "k", "code", "text", "bent", "word", "told", "starts", "start", "line", "one", "j"]) (sc := defScope s_law) (by decide +kernel)) (fun _ _ _ _ _ => pg_name (i := 11) sc_law.nd rfl (by first | exact Or.inl rfl | exact Or.inr rfl)) (fun _ _ _ _ _ => pts_nil) (fun _ _ _ _ _ => (pe_call c__law_line.G (hr.mono (by decide)) (by rfl) c__law_line.m c__law_line.k c__law_line.b .nil pass0 (pa_cons (pv 11) pa_nil)))) (by rfl)) (pss_one (ps_ret pe_bl)) pss_nil))) pss_nil)))))))))))
      (pss_one (ps_ret pe_bl))))))), ?_⟩
    refine ⟨_, rfl, a, ns, rfl, hS, h63, fun d c H1 s1 nd nc T1 => ?_⟩
    refine ⟨_, rfl, d, c, 12, rfl, T1, by decide, by decide, fun r H2 r0 r1 T2 O2 => ?_⟩
    obtain ⟨n, rfl⟩ := Int.eq_ofNat_of_zero_le r0
    refine ⟨_, rfl, by omega, by omega, fun D nD => ?_⟩
    have Dd := T2.ne nD
    refine lc_range (n := n) (fun i H' => ∃ (L : List Ins) (vs : List V), H' D = some (.lst vs) ∧ AtL K H' (L.map Ins.dt) vs ∧ (∀ b ∈ L, drawn b) ∧ L.length = i ∧ Tape H' d c) ⟨[], [], upd_same, by simp [AtL], (fun b hb => by cases hb), rfl, T2.keep (same_upd nD)⟩ ?_ ?_
    · rintro i H3 hi ⟨L, vs, hD, hA, hd, hl, T3⟩
      refine ⟨rfl, iteT (B := True) ⟨_, rfl, d, c, rfl, T3, fun v b H4 db hb T4 K4 => ?_⟩⟩
      have w4 := T3.rws K4
      have hD4 := w4.2 _ _ hD
      have kp := kpT_lst (ys := vs ++ [v]) hD4
      have lv := hA.length
      rw [List.length_map] at lv
      refine ⟨vs, hD4, by rw [lv]; exact sz6' (by omega), L ++ [b], vs ++ [v], upd_same, ?_, ?_, ?_, T4.put Dd⟩
      · rw [List.map_append]
        exact AtL.snoc (At.kpT kp (ins_tupO b) hb) (AtL.kpT kp (tupOL_map _ ins_tupO L) (AtL.rws w4 hA))
      · intro x hx
        rcases List.mem_append.mp hx with hx | hx
        · exact hd x hx
        · rw [List.mem_singleton.mp hx]
          exact db
      · rw [List.length_append, hl]
        rfl
    rintro H3 ⟨L, vs, hD, hA, hd, hl, T3⟩
    refine ⟨D, vs, rfl, .inl ⟨SqL.of hD, fun tc htc => ?_⟩⟩
    have hC : At K (upd H3 tc (.tup vs)) (.tup (L.map Ins.dt)) (.ref tc) := by
      unfold At
      exact ⟨tc, vs, rfl, upd_same, AtL.keep (same_upd htc) hA⟩
    have htc4 : (upd H3 tc (.tup vs)) tc = some (.tup vs) := upd_same
    have hA4 := AtL.keep (same_upd (o := .tup vs) htc) hA
    have T4 := T3.keep (same_upd (o := .tup vs) htc)
    generalize upd H3 tc (.tup vs) = H4 at hC htc4 hA4 T4
    clear hA T3 hD
    have hok : ∀ b ∈ L, good b ∧ fine b ∧ b.size ≤ 100 := fun b hb => drawn_ok (hd b hb)
    have hlen := drawn_len L 12 (fun b hb => (hok b hb).2.2) (by omega)
    have lvs := hA4.length
    rw [List.length_map] at lvs
    -- the text
    refine ⟨⟨_, rfl⟩, _, rfl, tc, rfl, ⟨_, SqT.of htc4⟩, fun D5 nD5 => ?_⟩
    refine lc_tup (K := K) (a := tc) (xs := vs) (fun i H2 => H2 D5 = some (.lst (((L.take i).map lineNl).map V.str)) ∧ Same H4 H2) ⟨upd_same, same_upd nD5⟩ (fun i H2 _ q => SqT.of (q.2 _ _ htc4)) ?_ ?_
    · rintro i x H2 hx ⟨hD2, s2⟩
      obtain ⟨b, eb, hat⟩ := insL_get hA4 hx
      have hb := hok b (List.mem_of_getElem? eb)
      refine ⟨rfl, iteT (B := True) ⟨_, rfl, x, b, rfl, hat.keep s2, hb.2.1, by omega, fun H3 s3 => ⟨_, s3 _ _ hD2, ?_, ?_, same_off nD5 (Same.trans s2 s3)⟩⟩⟩
      · rw [List.length_map, List.length_map, List.length_take]
        exact sz6' (by omega)
      · rw [upd_same, List.take_add_one, eb, List.map_append, List.map_append]
        rfl
    rintro H5 ⟨hD5, s5⟩
    rw [lvs, List.take_length] at hD5
    have T5 := T4.keep s5
    have hC5 := hC.keep s5
    have ej : Txt.join (Str.ofString "") (L.map lineNl) = ⟨(txtL L).toArray⟩ := join_lines L
    refine ⟨_, D5, L.map lineNl, rfl, rfl, .inl (SqL.of hD5), ?_, ?_⟩
    · rw [len_lines]
      have e : (Str.ofString "").length = 0 := by decide +kernel
      rw [e]
      omega
    rw [ej]
    have hz : Str.length ⟨(txtL L).toArray⟩ = (txtL L).length := by unfold Str.length; exact List.size_toArray
    -- written, read
    refine ⟨_, rfl, .ref tc, L, rfl, hC5, fun b hb => ⟨(hok b hb).2.1, by have := (hok b hb).2.2; omega⟩, by omega, by omega, fun H6 s6 => ?_⟩
    refine ⟨_, rfl, _, _, .str ⟨(txtL L).toArray⟩, rfl, by simp [At], by simp [At], by simp [dep], by simp [narrow], true, rfl, iteF ?_⟩
    refine ⟨_, rfl, ⟨(txtL L).toArray⟩, rfl, by omega, fun L' v H7 hl' hle' hat' s7 => ?_, fun L' j d' H7 hl' s7 hx => ?_⟩
    · have eL := (hl'.det (lns_txt fun b hb => (hok b hb).1)).1
      subst eL
      have hC7 := (hC5.keep s6).keep s7
      refine ⟨_, rfl, v, .ref tc, .tup (L'.map Ins.dt), rfl, hat', hC7, code_dep L', code_narrow (by omega) (fun b hb => by have := (hok b hb).2.2; omega), true, rfl, iteF ?_⟩
      have T7 := (T5.keep s6).keep s7
      generalize hzz : (⟨(txtL L').toArray⟩ : Str) = z at *
      refine ⟨3, rfl, by decide, by decide, ?_⟩
      refine for_range (n := 3) (fun i σ H' => ∃ y2 y5 y6 y7 y8 y9 y10, σ = [some (.ref a), some (.ref d), y2, some (.ref tc), some (.str z), y5, y6, y7, y8, y9, y10, none, none] ∧ Tape H' d c ∧ At K H' (.tup (L'.map Ins.dt)) (.ref tc)) ⟨_, _, _, _, _, _, _, rfl, T7, hC7⟩ ?_ ?_
      · rintro i σ H8 hi ⟨y2, y5, y6, y7, y8, y9, y10, rfl, T8, hC8⟩
        refine ⟨_, rfl, _, rfl, d, c, z, rfl, by omega, T8, fun y H9 ly T9 K9 => ?_⟩
        have hC9 := At.rws (T8.rws K9) hC8
        clear hC8 K9 T8
        have hyl := len_cps y
        have hy5 : y.length ≤ 100000 := by omega
        refine ⟨_, rfl, y, rfl, by omega, fun M p v' H10 hM hMl s10 hp hat => ?_, fun M j p H10 hM s10 hp => ?_⟩
        · -- code
          have T10 := T9.keep s10
          have hC10 := hC9.keep s10
          refine ⟨p, _, rfl, SqT.of hp, rfl, _, _, rfl, _, _, rfl, rfl, ?_⟩
          refine ⟨_, rfl, rfl, _, rfl, ?_⟩
          rw [decide_eq_true rfl]
          obtain ⟨et, hg⟩ := hM.whole
          have hsz : ∀ b ∈ M, b.size ≤ 90000 := fun b hb => by
            have h1 := size_le b
            have h2 := txt_mem hb
            rw [← et] at h2
            omega
          simp only [At] at hat
          obtain ⟨q, us, rfl, hq, hus⟩ := hat
          have lus := hus.length
          rw [List.length_map] at lus
          refine iteT ⟨⟨_, rfl⟩, _, rfl, q, rfl, ⟨_, SqT.of hq⟩, fun D nD => ?_⟩
          refine lc_tup (K := K) (a := q) (xs := us) (fun i H2 => H2 D = some (.lst (((M.take i).map lineNl).map V.str)) ∧ Same H10 H2) ⟨upd_same, same_upd nD⟩ (fun i H2 _ q => SqT.of (q.2 _ _ hq)) ?_ ?_
          · rintro i x H2 hx ⟨hD2, s2⟩
            obtain ⟨b, eb, hbt⟩ := insL_get hus hx
            have hbm := List.mem_of_getElem? eb
            refine ⟨rfl, iteT (B := True) ⟨_, rfl, x, b, rfl, hbt.keep s2, good_fine (hg b hbm), by have := hsz b hbm; omega, fun H3 s3 => ⟨_, s3 _ _ hD2, ?_, ?_, same_off nD (Same.trans s2 s3)⟩⟩⟩
            · rw [List.length_map, List.length_map, List.length_take]
              exact sz6' (by omega)
            · rw [upd_same, List.take_add_one, eb, List.map_append, List.map_append]
              rfl
          rintro H11 ⟨hD11, s11⟩
          rw [lus, List.take_length] at hD11
          have ej2 : Txt.join (Str.ofString "") (M.map lineNl) = ⟨(txtL M).toArray⟩ := join_lines M
          have ey : (⟨(txtL M).toArray⟩ : Str) = y := TL.ext_tl et.symm
          refine ⟨_, D, M.map lineNl, rfl, rfl, .inl (SqL.of hD11), ?_, ?_⟩
          · rw [len_lines, ← et]
            have e : (Str.ofString "").length = 0 := by decide +kernel
            rw [e]
            omega
          rw [ej2, ey]
          refine ⟨_, rfl, _, _, .str y, rfl, by simp [At], by simp [At], by simp [dep], by simp [narrow], true, rfl, iteF ?_⟩
          exact ⟨_, _, _, _, _, _, _, rfl, T10.keep s11, hC10.keep s11⟩
        · -- wrong
          have T10 := T9.keep s10
          have hC10 := hC9.keep s10
          clear T9 hC9
          obtain ⟨hg, kk, hkin, hkl, hpre, hcase⟩ := hM.fails
          refine ⟨p, _, rfl, SqT.of hp, rfl, _, _, rfl, _, _, rfl, rfl, ?_⟩
          refine ⟨_, rfl, rfl, _, rfl, ?_⟩
          rw [decide_eq_false (show ¬ V.str (Str.ofString "wrong") = V.str (Str.ofString "code") from fun q => absurd q (by decide +kernel))]
          refine iteF ⟨by show 1 ≤ sizeLine; decide, fun l0 h0 => ?_⟩
          have s11 := same_upd (o := .lst [V.int 0]) h0
          have T11 := T10.keep s11
          have hC11 := hC10.keep s11
          have h00 : (upd H10 l0 (.lst [V.int 0])) l0 = some (.lst [V.int 0]) := upd_same
          generalize upd H10 l0 (.lst [V.int 0]) = H11 at T11 hC11 h00
          clear T10 hC10 hp s10 s11
          refine ⟨_, rfl, y, rfl, sz6 hy5, _, rfl, by omega, by omega, fun D nD => ?_⟩
          refine lc_range (n := y.length) (fun i H2 => H2 D = some (.lst ((((List.range i).filter fun j => decide (y.cps.toList[j]? = some 10)).map (· + 1)).map fun n => V.int (n : Nat))) ∧ Same H11 H2) ⟨upd_same, same_upd nD⟩ ?_ ?_
          · rintro i H2 hi ⟨hD2, s2⟩
            obtain ⟨ch, ec⟩ : ∃ ch, y.cps.toList[i]? = some ch := ⟨_, List.getElem?_eq_getElem (by omega)⟩
            have e0 : (0 : Int) + ((i : Nat) : Int) = (i : Int) := Int.zero_add _
            refine ⟨rfl, ?_⟩
            rw [e0]
            refine ⟨_, rfl, _, rfl, y, _, ch, rfl, rfl, sz6 hy5, atI_cps ec, rfl, _, rfl, ?_⟩
            have e2 : decide (V.str ⟨#[ch]⟩ = V.str (Str.ofString "\n")) = decide (ch = 10) := decide_eq_decide.mpr ⟨fun q => by
              injection q with q
              injection q with q
              have q := congrArg Array.toList q
              injection q, fun q => by rw [q]; rfl⟩
            rw [e2]
            rw [List.range_succ, List.filter_append]
            by_cases c1 : ch = 10
            · rw [decide_eq_true c1]
              refine iteT ⟨_, rfl, _, _, rfl, rfl, _, hD2, ?_, ?_, same_off nD s2⟩
              · rw [List.length_map, List.length_map]
                have := List.length_filter_le (fun j => decide (y.cps.toList[j]? = some 10)) (List.range i)
                rw [List.length_range] at this
                exact sz6' (by omega)
              · rw [upd_same, List.filter_cons_of_pos (by rw [ec, c1]; exact decide_eq_true rfl), List.map_append, List.map_append]
                rfl
            · rw [decide_eq_false c1]
              refine iteF ⟨?_, s2⟩
              rw [List.filter_cons_of_neg (by rw [ec]; intro q; exact c1 (Option.some.inj (of_decide_eq_true q))), List.filter_nil, List.append_nil]
              exact hD2
          rintro H12 ⟨hD12, s12⟩
          have T12 := T11.keep s12
          have hC12 := hC11.keep s12
          have h012 := s12 _ _ h00
          refine ⟨l0, D, _, _, rfl, rfl, h012, hD12, ?_, fun st hst => ?_⟩
          · rw [List.length_map, List.length_map]
            have := List.length_filter_le (fun j => decide (y.cps.toList[j]? = some 10)) (List.range y.length)
            rw [List.length_range] at this
            exact Nat.le_trans (show 1 + _ ≤ 100000 by omega) (by decide)
          have T13 := T12.keep (same_upd (o := .lst ([V.int 0] ++ (((List.range y.length).filter fun j => decide (y.cps.toList[j]? = some 10)).map (· + 1)).map fun n => V.int (n : Nat))) hst)
          have hC13 := hC12.keep (same_upd (o := .lst ([V.int 0] ++ (((List.range y.length).filter fun j => decide (y.cps.toList[j]? = some 10)).map (· + 1)).map fun n => V.int (n : Nat))) hst)
          have hst13 : (upd H12 st (.lst ([V.int 0] ++ (((List.range y.length).filter fun j => decide (y.cps.toList[j]? = some 10)).map (· + 1)).map fun n => V.int (n : Nat)))) st = some (.lst ((stL y.cps.toList).map fun n => V.int (n : Nat))) := by
            rw [upd_same]
            unfold stL
            rw [← hyl]
            rfl
          generalize upd H12 st (.lst ([V.int 0] ++ (((List.range y.length).filter fun j => decide (y.cps.toList[j]? = some 10)).map (· + 1)).map fun n => V.int (n : Nat))) = H13 at T13 hC13 hst13
          clear T12 hC12 h012 hD12 T11 hC11 h00 s12
          have lst : (stL y.cps.toList).length ≤ 100000 := by
            unfold stL
            rw [List.length_cons, List.length_map]
            have := List.length_filter_le (fun j => decide (y.cps.toList[j]? = some 10)) (List.range y.cps.toList.length)
            rw [List.length_range] at this
            omega
          -- from here on: st at H13
          have rd : ∀ (σ : L2.St) (Hx : Hp) (D' : Ends), True := fun _ _ _ => trivial
          clear rd
          have ein := inV_int j (stL y.cps.toList)
          have hcut : cutS y none (some (kk : Int)) = ⟨(y.cps.toList.take kk).toArray⟩ := cut_take (by omega)
          have hcl : Str.length ⟨(y.cps.toList.take kk).toArray⟩ ≤ 40000 := by
            show ((y.cps.toList.take kk).toArray).size ≤ _
            rw [List.size_toArray, List.length_take]
            omega
          rcases hcase with ⟨rfl, hnin, h10, M', eM⟩ | ⟨rfl, pp, qq, epq, hp10, hnone⟩
          · -- no newline at the end
            rw [decide_eq_false hnin] at ein
            refine ⟨_, rfl, _, rfl, y, rfl, sz6 hy5, rfl, _, rfl, ?_⟩
            rw [hyl, decide_eq_true rfl]
            refine iteF (iteF ?_)
            refine ⟨_, rfl, _, rfl, y, rfl, sz6 hy5, rfl, _, rfl, ?_⟩
            rw [hyl, decide_eq_true rfl]
            refine iteT ⟨_, rfl, _, rfl, _, rfl, y, rfl, sz6 hy5, rfl, _, rfl, ?_⟩
            rw [decide_eq_false (show ¬ V.str (cutS y (some (-1)) none) = V.str (Str.ofString "\n") from fun q => cut_last h10 (by omega) (by injection q))]
            refine iteF ?_
            refine ⟨_, rfl, _, rfl, st, _, rfl, .inl (SqL.of hst13), rfl, flat_ints _, _, rfl, ?_⟩
            rw [show (if false = true then !inV (V.int ((y.cps.toList.length : Nat) : Int)) ((stL y.cps.toList).map fun n => V.int (n : Nat)) else inV (V.int ((y.cps.toList.length : Nat) : Int)) ((stL y.cps.toList).map fun n => V.int (n : Nat))) = false from ein]
            have hlast : atI ((stL y.cps.toList).map fun n => V.int (n : Nat)) (-1) = some (V.int (kk : Nat)) := by
              rw [eM, List.map_append]
              exact atI_last _ _
            refine iteF ⟨_, rfl, _, rfl, st, _, _, _, rfl, rfl, SqL.of hst13, hlast, ?_⟩
            refine ⟨_, rfl, _, rfl, _, rfl, y, rfl, sz6 hy5, ?_⟩
            rw [hcut]
            refine ⟨_, rfl, by omega, fun M2 p2 v2 H14 hM2 _ s14 hp2 _ => ?_, fun M2 j2 p2 H14 hM2 s14 hp2 => ?_⟩
            · refine ⟨p2, _, _, _, rfl, rfl, SqT.of hp2, atI_nat (j := 0) rfl, rfl, _, rfl, ?_⟩
              rw [decide_eq_true rfl]
              refine iteF ?_
              refine ⟨_, rfl, _, rfl, st, _, rfl, .inl (SqL.of (s14 _ _ hst13)), rfl, flat_ints _, _, rfl, ?_⟩
              rw [show (if false = true then !inV (V.int ((y.cps.toList.length : Nat) : Int)) ((stL y.cps.toList).map fun n => V.int (n : Nat)) else inV (V.int ((y.cps.toList.length : Nat) : Int)) ((stL y.cps.toList).map fun n => V.int (n : Nat))) = false from ein]
              refine iteF (iteF ?_)
              exact ⟨_, _, _, _, _, _, _, rfl, T13.keep s14, hC13.keep s14⟩
            · have := (hM2.det hpre).2
              cases this
          · -- a wrong line
            rw [decide_eq_true hkin] at ein
            refine ⟨_, rfl, _, rfl, y, rfl, sz6 hy5, rfl, _, rfl, ?_⟩
            rw [decide_eq_false (show ¬ V.int ((j : Nat) : Int) = V.int (y.length : Int) from fun q => by injection q with q; omega)]
            refine iteT ⟨_, rfl, _, rfl, st, _, rfl, .inl (SqL.of hst13), rfl, flat_ints _, _, rfl, ?_⟩
            rw [show (if true = true then !inV (V.int ((j : Nat) : Int)) ((stL y.cps.toList).map fun n => V.int (n : Nat)) else inV (V.int ((j : Nat) : Int)) ((stL y.cps.toList).map fun n => V.int (n : Nat))) = false from by rw [if_pos rfl, ein]; rfl]
            refine iteF ?_
            refine ⟨_, rfl, _, rfl, y, rfl, sz6 hy5, rfl, _, rfl, ?_⟩
            rw [decide_eq_false (show ¬ V.int ((j : Nat) : Int) = V.int (y.length : Int) from fun q => by injection q with q; omega)]
            refine iteF (iteF ?_)
            refine ⟨_, rfl, _, rfl, st, _, rfl, .inl (SqL.of hst13), rfl, flat_ints _, _, rfl, ?_⟩
            rw [show (if false = true then !inV (V.int ((j : Nat) : Int)) ((stL y.cps.toList).map fun n => V.int (n : Nat)) else inV (V.int ((j : Nat) : Int)) ((stL y.cps.toList).map fun n => V.int (n : Nat))) = true from ein]
            refine iteT ⟨_, rfl, ?_⟩
            refine ⟨_, rfl, _, rfl, _, rfl, y, rfl, sz6 hy5, ?_⟩
            rw [hcut]
            refine ⟨_, rfl, by omega, fun M2 p2 v2 H14 hM2 _ s14 hp2 _ => ?_, fun M2 j2 p2 H14 hM2 s14 hp2 => ?_⟩
            · refine ⟨p2, _, _, _, rfl, rfl, SqT.of hp2, atI_nat (j := 0) rfl, rfl, _, rfl, ?_⟩
              rw [decide_eq_true rfl]
              refine iteF ?_
              have T14 := T13.keep s14
              have hC14 := hC13.keep s14
              refine ⟨_, rfl, _, rfl, st, _, rfl, .inl (SqL.of (s14 _ _ hst13)), rfl, flat_ints _, _, rfl, ?_⟩
              rw [show (if false = true then !inV (V.int ((j : Nat) : Int)) ((stL y.cps.toList).map fun n => V.int (n : Nat)) else inV (V.int ((j : Nat) : Int)) ((stL y.cps.toList).map fun n => V.int (n : Nat))) = true from ein]
              refine iteT ⟨_, rfl, _, rfl, y, rfl, sz6 hy5, _, _, rfl, rfl, _, rfl, ?_⟩
              rw [decide_eq_true (show ((j : Nat) : Int) < (y.length : Int) by omega)]
              have hfrom : cutS y (some (j : Int)) none = ⟨(pp ++ 10 :: qq).toArray⟩ := by
                rw [cut_from (by omega), epq]
              obtain ⟨rr, esp⟩ := split_nl (q := qq) hp10
              have hpl : Str.length ⟨pp.toArray⟩ ≤ 40000 := by
                show (pp.toArray).size ≤ _
                rw [List.size_toArray]
                have := congrArg List.length epq
                rw [List.length_drop, List.length_append] at this
                omega
              refine iteT ⟨_, rfl, _, rfl, _, rfl, y, rfl, sz6 hy5, ?_⟩
              rw [hfrom]
              refine ⟨rfl, _, _, rfl, rfl, by decide +kernel, ?_, fun q hq => ?_⟩
              · have : Str.length ⟨(pp ++ 10 :: qq).toArray⟩ ≤ 40000 := by
                  rw [← hfrom]
                  have := cutS_len y (some (j : Int)) none
                  omega
                exact Nat.le_trans (show _ + 2 ≤ 100000 by omega) (by decide)
              rw [esp]
              refine ⟨q, _, _, _, rfl, rfl, SqL.of upd_same, atI_nat (j := 0) rfl, _, _, rfl, rfl, ?_, ?_⟩
              · rw [nl_len]
                exact Nat.le_trans (show _ + 1 ≤ 100000 by omega) (by decide)
              have s15 := same_upd (o := .lst ((⟨pp.toArray⟩ :: rr).map V.str)) hq
              have T15 := T14.keep s15
              have hC15 := hC14.keep s15
              generalize upd H14 q (.lst ((⟨pp.toArray⟩ :: rr).map V.str)) = H15 at T15 hC15
              have hC15' := hC15
              simp only [At] at hC15'
              obtain ⟨tc', us, etc, hus, hA15⟩ := hC15'
              cases etc
              have lus := hA15.length
              rw [List.length_map] at lus
              refine ⟨_, rfl, _, rfl, tc, rfl, ⟨_, SqT.of hus⟩, fun D nD => ?_⟩
              refine lc_tup (K := K) (a := tc) (xs := us) (fun i H2 => H2 D = some (.lst (((L'.take i).map lineNl).map V.str)) ∧ Same H15 H2) ⟨upd_same, same_upd nD⟩ (fun i H2 _ q => SqT.of (q.2 _ _ hus)) ?_ ?_
              · rintro i x H2 hx ⟨hD2, s2⟩
                obtain ⟨b, eb, hbt⟩ := insL_get hA15 hx
                have hb := hok b (List.mem_of_getElem? eb)
                refine ⟨rfl, iteT (B := True) ⟨_, rfl, x, b, rfl, hbt.keep s2, hb.2.1, by have := hb.2.2; omega, fun H3 s3 => ⟨_, s3 _ _ hD2, ?_, ?_, same_off nD (Same.trans s2 s3)⟩⟩⟩
                · rw [List.length_map, List.length_map, List.length_take]
                  exact sz6' (by omega)
                · rw [upd_same, List.take_add_one, eb, List.map_append, List.map_append]
                  rfl
              rintro H16 ⟨hD16, s16⟩
              rw [lus, List.take_length] at hD16
              refine ⟨D, _, rfl, .inl (SqL.of hD16), rfl, flat_strs _, _, rfl, ?_⟩
              have hno : inV (V.str (⟨pp.toArray⟩ ++ Str.ofString "\n")) ((L'.map lineNl).map V.str) = false := by
                rw [inV_str]
                refine decide_eq_false fun hm => ?_
                obtain ⟨b, hb, eb⟩ := List.mem_map.mp hm
                have e1 := congrArg TL.tl eb
                rw [tl_lineNl, TL.tl_append, tl_nl] at e1
                have e2 : TL.tl b.line = pp := List.append_cancel_right e1
                have e3 : b.line = ⟨pp.toArray⟩ := TL.ext_tl e2
                have := (hok b hb).1.2
                rw [e3, hnone] at this
                cases this
              rw [show (if false = true then !inV (V.str (⟨pp.toArray⟩ ++ Str.ofString "\n")) ((L'.map lineNl).map V.str) else inV (V.str (⟨pp.toArray⟩ ++ Str.ofString "\n")) ((L'.map lineNl).map V.str)) = false from hno]
              refine iteF ?_
              exact ⟨_, _, _, _, _, _, _, rfl, T15.keep s16, hC15.keep s16⟩
            · have := (hM2.det hpre).2
              cases this
      · rintro σ H8 ⟨y2, y5, y6, y7, y8, y9, y10, rfl, T8, hC8⟩
        exact k _
    · have := (hl'.det (lns_txt fun b hb => (hok b hb).1)).2
      cases this
end
end OS

namespace OS
open PySem PySem.Spec PyProof.Rows L2
/-- a written tuple of texts -/
structure TupObj (o : Obj) (xs : List Str) : Prop where
  ex : ∃ (its : Array Value) (n : Nat), o.cls = .type "tuple" ∧ o.data = .seq its n ∧ its.size ≤ sizeLine ∧ Vals (xs.map V.str) its.toList
theorem TupObj.seq {K : PySem.W.Frag} {H : Hp} {p : Addr} {o : Obj} {xs : List Str} (v : TupObj o xs) (y : K.lookup p = some o) : SqT K H p (xs.map V.str) := by
  obtain ⟨its, n, h1, h2, h3, h4⟩ := v.ex
  exact .inr ⟨o, its, n, y, h1, h2, h3, h4⟩
/-- the entries of the written dict of forms -/
def FEnts (K : PySem.W.Frag) : List DictEntry → List (Str × List Str) → Prop
  | [], [] => True
  | e :: r, p :: q => (∃ t, e.key = .str p.1 t) ∧ (∃ a o, e.val = .ref a ∧ K.lookup a = some o ∧ TupObj o p.2) ∧ FEnts K r q
  | _, _ => False
theorem isStr_str (x z : Str) (t : Tok) : (Value.str x t).isStr z = decide (x = z) := by
  show _ = _
  by_cases h : x = z
  · rw [decide_eq_true h, h]
    exact beq_self_eq_true z
  · rw [decide_eq_false h]
    exact beq_eq_false_iff_ne.mpr h
theorem FEnts.find {K : PySem.W.Frag} (z : Str) : ∀ {es : List DictEntry} {fs : List (Str × List Str)}, FEnts K es fs →
    (es.any (·.refKey) = false) ∧ ((fs.find? fun p => decide (p.1 = z)) = none → es.find? (·.key.isStr z) = none) ∧ ∀ p, (fs.find? fun p => decide (p.1 = z)) = some p → ∃ e a o, es.find? (·.key.isStr z) = some e ∧ e.val = .ref a ∧ K.lookup a = some o ∧ TupObj o p.2
  | [], [], _ => ⟨rfl, fun _ => rfl, fun p h => by cases h⟩
  | e :: r, p :: q, h => by
    obtain ⟨⟨t, hk⟩, ⟨a, o, h1, h2, h3⟩, hr⟩ := h
    obtain ⟨i1, i2, i3⟩ := FEnts.find z hr
    have hs : e.key.isStr z = decide (p.1 = z) := by rw [hk]; exact isStr_str _ _ _
    refine ⟨?_, ?_, ?_⟩
    · rw [List.any_cons, i1, Bool.or_false]
      unfold DictEntry.refKey
      rw [hk]
    · intro hn
      rw [List.find?_cons] at hn ⊢
      rw [hs]
      cases c : decide (p.1 = z) with
      | true => rw [c] at hn; cases hn
      | false => rw [c] at hn; exact i2 hn
    · intro x hx
      rw [List.find?_cons] at hx ⊢
      rw [hs]
      cases c : decide (p.1 = z) with
      | true =>
        rw [c] at hx
        cases hx
        exact ⟨e, a, o, rfl, h1, h2, h3⟩
      | false => rw [c] at hx; exact i3 x hx
theorem forms_ns {K : PySem.W.Frag} {d : Addr} {es : Array DictEntry} {n : Nat} (y : K.lookup d = some ⟨.type "dict", none, .dict es n, #[]⟩) (f : FEnts K es.toList forms) :
    (∀ z, formOf z = none → PySem.W.nsIn K d z = some none) ∧ ∀ z ss, formOf z = some ss → ∃ p, PySem.W.nsIn K d z = some (some (.ref p)) ∧ ∀ H, SqT K H p (ss.map V.str) := by
  refine ⟨fun z hz => ?_, fun z ss hz => ?_⟩
  · obtain ⟨i1, i2, _⟩ := f.find z
    unfold formOf at hz
    have hz : (forms.find? fun p => decide (p.1 = z)) = none := by
      cases e : forms.find? fun p => decide (p.1 = z) with
      | none => rfl
      | some x => rw [e] at hz; cases hz
    unfold PySem.W.nsIn
    rw [y]
    dsimp only
    rw [i2 hz]
    dsimp only
    rw [i1]
    rfl
  · obtain ⟨_, _, i3⟩ := f.find z
    unfold formOf at hz
    cases e : forms.find? fun p => decide (p.1 = z) with
    | none => rw [e] at hz; cases hz
    | some x =>
      rw [e] at hz
      cases hz
      obtain ⟨en, a, o, h1, h2, h3, h4⟩ := i3 x e
      refine ⟨a, ?_, fun H => h4.seq h3⟩
      unfold PySem.W.nsIn
      rw [y]
      dsimp only
      rw [h1]
      dsimp only
      rw [h2]
theorem fe_cons {K : PySem.W.Frag} {e : DictEntry} {r : List DictEntry} {k : Str} {ss : List Str} {q : List (Str × List Str)} {t : Tok} {a : Addr} {o : Obj} (h1 : e.key = .str k t) (h2 : e.val = .ref a) (h3 : K.lookup a = some o) (h4 : TupObj o ss) (h5 : FEnts K r q) : FEnts K (e :: r) ((k, ss) :: q) :=
  ⟨⟨t, h1⟩, ⟨a, o, h2, h3, h4⟩, h5⟩
theorem fe_nil {K : PySem.W.Frag} : FEnts K [] [] := trivial
end OS

set_option maxHeartbeats 4000000
namespace OS
open PySem PySem.Spec PyProof.Rows L2
theorem all_mk {l : PySem.W.OpenLaw} {w : World} {K : PySem.W.Frag} {h : Heap} {mg : Str → Option Value} {fa : Addr} (X : K.In h) (G : h.Ns mainGlobals mg) (hfa : mg "law" = some (.ref fa))
    {C_SyntaxProblem : Addr}
    {f_run_end : Addr} {od_run_end an_run_end : Option Addr} {sl_run_end : Array (Option Value)} {oc_run_end kV_run_end dc_run_end pm_run_end cd_run_end ct_run_end : Value}
    {f_line_of : Addr} {od_line_of an_line_of : Option Addr} {sl_line_of : Array (Option Value)} {oc_line_of kV_line_of dc_line_of pm_line_of cd_line_of ct_line_of : Value}
    {f_write_code : Addr} {od_write_code an_write_code : Option Addr} {sl_write_code : Array (Option Value)} {oc_write_code kV_write_code dc_write_code pm_write_code cd_write_code ct_write_code : Value}
    {f_is_name : Addr} {od_is_name an_is_name : Option Addr} {sl_is_name : Array (Option Value)} {oc_is_name kV_is_name dc_is_name pm_is_name cd_is_name ct_is_name : Value}
    {f_is_number : Addr} {od_is_number an_is_number : Option Addr} {sl_is_number : Array (Option Value)} {oc_is_number kV_is_number dc_is_number pm_is_number cd_is_number ct_is_number : Value}
    {f_read_part : Addr} {od_read_part an_read_part : Option Addr} {sl_read_part : Array (Option Value)} {oc_read_part kV_read_part dc_read_part pm_read_part cd_read_part ct_read_part : Value}
    {f_read_parts : Addr} {od_read_parts an_read_parts : Option Addr} {sl_read_parts : Array (Option Value)} {oc_read_parts kV_read_parts dc_read_parts pm_read_parts cd_read_parts ct_read_parts : Value}
    {f_read_wait : Addr} {od_read_wait an_read_wait : Option Addr} {sl_read_wait : Array (Option Value)} {oc_read_wait kV_read_wait dc_read_wait pm_read_wait cd_read_wait ct_read_wait : Value}
    {f_read_line : Addr} {od_read_line an_read_line : Option Addr} {sl_read_line : Array (Option Value)} {oc_read_line kV_read_line dc_read_line pm_read_line cd_read_line ct_read_line : Value}
    {f_read_code : Addr} {od_read_code an_read_code : Option Addr} {sl_read_code : Array (Option Value)} {oc_read_code kV_read_code dc_read_code pm_read_code cd_read_code ct_read_code : Value}
    {f__law_tape : Addr} {od__law_tape an__law_tape : Option Addr} {sl__law_tape : Array (Option Value)} {oc__law_tape kV__law_tape dc__law_tape pm__law_tape cd__law_tape ct__law_tape : Value}
    {f__law_take : Addr} {od__law_take an__law_take : Option Addr} {sl__law_take : Array (Option Value)} {oc__law_take kV__law_take dc__law_take pm__law_take cd__law_take ct__law_take : Value}
    {f__law_is_integer : Addr} {od__law_is_integer an__law_is_integer : Option Addr} {sl__law_is_integer : Array (Option Value)} {oc__law_is_integer kV__law_is_integer dc__law_is_integer pm__law_is_integer cd__law_is_integer ct__law_is_integer : Value}
    {f__law_same_items : Addr} {od__law_same_items an__law_same_items : Option Addr} {sl__law_same_items : Array (Option Value)} {oc__law_same_items kV__law_same_items dc__law_same_items pm__law_same_items cd__law_same_items ct__law_same_items : Value}
    {f__law_same : Addr} {od__law_same an__law_same : Option Addr} {sl__law_same : Array (Option Value)} {oc__law_same kV__law_same dc__law_same pm__law_same cd__law_same ct__law_same : Value}
    {f__law_instruction : Addr} {od__law_instruction an__law_instruction : Option Addr} {sl__law_instruction : Array (Option Value)} {oc__law_instruction kV__law_instruction dc__law_instruction pm__law_instruction cd__law_instruction ct__law_instruction : Value}
    {f__law_line : Addr} {od__law_line an__law_line : Option Addr} {sl__law_line : Array (Option Value)} {oc__law_line kV__law_line dc__law_line pm__law_line cd__law_line ct__law_line : Value}
    {f__law_bent : Addr} {od__law_bent an__law_bent : Option Addr} {sl__law_bent : Array (Option Value)} {oc__law_bent kV__law_bent dc__law_bent pm__law_bent cd__law_bent ct__law_bent : Value}
    {f__law_read : Addr} {od__law_read an__law_read : Option Addr} {sl__law_read : Array (Option Value)} {oc__law_read kV__law_read dc__law_read pm__law_read cd__law_read ct__law_read : Value}
    {f_law : Addr} {od_law an_law : Option Addr} {sl_law : Array (Option Value)} {oc_law kV_law dc_law pm_law cd_law ct_law : Value}
    {t_DIGITS : Tok}
    {t_LETTERS_OF_NAMES : Tok}
    {t_MODULUS : Tok}
    {t_MOST_DIGITS : Tok}
    {p_ANSWERS : Addr} {o_ANSWERS : Obj}
    {d_FORMS : Addr} {es_FORMS : Array DictEntry} {n_FORMS : Nat}
    {nmS qS : Str} {NS : Addr} {bsS : List Value} {snS : List Str} {subS : List Value} {abS : Bool} {colS : Option Bool} {ddS : Option Addr} {mS0 mS1 mS2 mS3 mS5 : Option Value} {SE : Addr}
    {fS cdaS ccS : Addr} {odS anS cddS cldS : Option Addr} {oslS ccsS cslS : Array (Option Value)} {ocS kVS dcS pmS ctS cclS clS : Value} {vs2S : Array Value} {fileS : Str} {tfS : Tok} {cdS : ClassData}
    (aC_SyntaxProblem : PySem.W.nsIn K mainGlobals "SyntaxProblem" = some (some (.ref C_SyntaxProblem)))
    (a_run_end : PySem.W.nsIn K mainGlobals "run_end" = some (some (.ref f_run_end)))
    (l_run_end : K.lookup f_run_end = some ⟨oc_run_end, od_run_end, .func (PySem.W.fnOf "run_end" "run_end" (defArgs s_run_end) (defBody s_run_end) (defScope s_run_end) .none kV_run_end dc_run_end pm_run_end an_run_end cd_run_end ct_run_end), sl_run_end⟩) (c_run_end : PySem.W.codeIn K cd_run_end "run_end" = true) (k_run_end : PySem.W.keepIn K (.ref f_run_end) = true)
    (a_line_of : PySem.W.nsIn K mainGlobals "line_of" = some (some (.ref f_line_of)))
    (l_line_of : K.lookup f_line_of = some ⟨oc_line_of, od_line_of, .func (PySem.W.fnOf "line_of" "line_of" (defArgs s_line_of) (defBody s_line_of) (defScope s_line_of) .none kV_line_of dc_line_of pm_line_of an_line_of cd_line_of ct_line_of), sl_line_of⟩) (c_line_of : PySem.W.codeIn K cd_line_of "line_of" = true) (k_line_of : PySem.W.keepIn K (.ref f_line_of) = true)
    (a_write_code : PySem.W.nsIn K mainGlobals "write_code" = some (some (.ref f_write_code)))
    (l_write_code : K.lookup f_write_code = some ⟨oc_write_code, od_write_code, .func (PySem.W.fnOf "write_code" "write_code" (defArgs s_write_code) (defBody s_write_code) (defScope s_write_code) .none kV_write_code dc_write_code pm_write_code an_write_code cd_write_code ct_write_code), sl_write_code⟩) (c_write_code : PySem.W.codeIn K cd_write_code "write_code" = true) (k_write_code : PySem.W.keepIn K (.ref f_write_code) = true)
    (a_is_name : PySem.W.nsIn K mainGlobals "is_name" = some (some (.ref f_is_name)))
    (l_is_name : K.lookup f_is_name = some ⟨oc_is_name, od_is_name, .func (PySem.W.fnOf "is_name" "is_name" (defArgs s_is_name) (defBody s_is_name) (defScope s_is_name) .none kV_is_name dc_is_name pm_is_name an_is_name cd_is_name ct_is_name), sl_is_name⟩) (c_is_name : PySem.W.codeIn K cd_is_name "is_name" = true) (k_is_name : PySem.W.keepIn K (.ref f_is_name) = true)
    (a_is_number : PySem.W.nsIn K mainGlobals "is_number" = some (some (.ref f_is_number)))
    (l_is_number : K.lookup f_is_number = some ⟨oc_is_number, od_is_number, .func (PySem.W.fnOf "is_number" "is_number" (defArgs s_is_number) (defBody s_is_number) (defScope s_is_number) .none kV_is_number dc_is_number pm_is_number an_is_number cd_is_number ct_is_number), sl_is_number⟩) (c_is_number : PySem.W.codeIn K cd_is_number "is_number" = true) (k_is_number : PySem.W.keepIn K (.ref f_is_number) = true)
    (a_read_part : PySem.W.nsIn K mainGlobals "read_part" = some (some (.ref f_read_part)))
    (l_read_part : K.lookup f_read_part = some ⟨oc_read_part, od_read_part, .func (PySem.W.fnOf "read_part" "read_part" (defArgs s_read_part) (defBody s_read_part) (defScope s_read_part) .none kV_read_part dc_read_part pm_read_part an_read_part cd_read_part ct_read_part), sl_read_part⟩) (c_read_part : PySem.W.codeIn K cd_read_part "read_part" = true) (k_read_part : PySem.W.keepIn K (.ref f_read_part) = true)
    (a_read_parts : PySem.W.nsIn K mainGlobals "read_parts" = some (some (.ref f_read_parts)))
    (l_read_parts : K.lookup f_read_parts = some ⟨oc_read_parts, od_read_parts, .func (PySem.W.fnOf "read_parts" "read_parts" (defArgs s_read_parts) (defBody s_read_parts) (defScope s_read_parts) .none kV_read_parts dc_read_parts pm_read_parts an_read_parts cd_read_parts ct_read_parts), sl_read_parts⟩) (c_read_parts : PySem.W.codeIn K cd_read_parts "read_parts" = true) (k_read_parts : PySem.W.keepIn K (.ref f_read_parts) = true)
    (a_read_wait : PySem.W.nsIn K mainGlobals "read_wait" = some (some (.ref f_read_wait)))
    (l_read_wait : K.lookup f_read_wait = some ⟨oc_read_wait, od_read_wait, .func (PySem.W.fnOf "read_wait" "read_wait" (defArgs s_read_wait) (defBody s_read_wait) (defScope s_read_wait) .none kV_read_wait dc_read_wait pm_read_wait an_read_wait cd_read_wait ct_read_wait), sl_read_wait⟩) (c_read_wait : PySem.W.codeIn K cd_read_wait "read_wait" = true) (k_read_wait : PySem.W.keepIn K (.ref f_read_wait) = true)
    (a_read_line : PySem.W.nsIn K mainGlobals "read_line" = some (some (.ref f_read_line)))
    (l_read_line : K.lookup f_read_line = some ⟨oc_read_line, od_read_line, .func (PySem.W.fnOf "read_line" "read_line" (defArgs s_read_line) (defBody s_read_line) (defScope s_read_line) .none kV_read_line dc_read_line pm_read_line an_read_line cd_read_line ct_read_line), sl_read_line⟩) (c_read_line : PySem.W.codeIn K cd_read_line "read_line" = true) (k_read_line : PySem.W.keepIn K (.ref f_read_line) = true)
    (a_read_code : PySem.W.nsIn K mainGlobals "read_code" = some (some (.ref f_read_code)))
    (l_read_code : K.lookup f_read_code = some ⟨oc_read_code, od_read_code, .func (PySem.W.fnOf "read_code" "read_code" (defArgs s_read_code) (defBody s_read_code) (defScope s_read_code) .none kV_read_code dc_read_code pm_read_code an_read_code cd_read_code ct_read_code), sl_read_code⟩) (c_read_code : PySem.W.codeIn K cd_read_code "read_code" = true) (k_read_code : PySem.W.keepIn K (.ref f_read_code) = true)
    (a__law_tape : PySem.W.nsIn K mainGlobals "_law_tape" = some (some (.ref f__law_tape)))
    (l__law_tape : K.lookup f__law_tape = some ⟨oc__law_tape, od__law_tape, .func (PySem.W.fnOf "_law_tape" "_law_tape" (defArgs s__law_tape) (defBody s__law_tape) (defScope s__law_tape) .none kV__law_tape dc__law_tape pm__law_tape an__law_tape cd__law_tape ct__law_tape), sl__law_tape⟩) (c__law_tape : PySem.W.codeIn K cd__law_tape "_law_tape" = true) (k__law_tape : PySem.W.keepIn K (.ref f__law_tape) = true)
    (a__law_take : PySem.W.nsIn K mainGlobals "_law_take" = some (some (.ref f__law_take)))
    (l__law_take : K.lookup f__law_take = some ⟨oc__law_take, od__law_take, .func (PySem.W.fnOf "_law_take" "_law_take" (defArgs s__law_take) (defBody s__law_take) (defScope s__law_take) .none kV__law_take dc__law_take pm__law_take an__law_take cd__law_take ct__law_take), sl__law_take⟩) (c__law_take : PySem.W.codeIn K cd__law_take "_law_take" = true) (k__law_take : PySem.W.keepIn K (.ref f__law_take) = true)
    (a__law_is_integer : PySem.W.nsIn K mainGlobals "_law_is_integer" = some (some (.ref f__law_is_integer)))
    (l__law_is_integer : K.lookup f__law_is_integer = some ⟨oc__law_is_integer, od__law_is_integer, .func (PySem.W.fnOf "_law_is_integer" "_law_is_integer" (defArgs s__law_is_integer) (defBody s__law_is_integer) (defScope s__law_is_integer) .none kV__law_is_integer dc__law_is_integer pm__law_is_integer an__law_is_integer cd__law_is_integer ct__law_is_integer), sl__law_is_integer⟩) (c__law_is_integer : PySem.W.codeIn K cd__law_is_integer "_law_is_integer" = true) (k__law_is_integer : PySem.W.keepIn K (.ref f__law_is_integer) = true)
    (a__law_same_items : PySem.W.nsIn K mainGlobals "_law_same_items" = some (some (.ref f__law_same_items)))
    (l__law_same_items : K.lookup f__law_same_items = some ⟨oc__law_same_items, od__law_same_items, .func (PySem.W.fnOf "_law_same_items" "_law_same_items" (defArgs s__law_same_items) (defBody s__law_same_items) (defScope s__law_same_items) .none kV__law_same_items dc__law_same_items pm__law_same_items an__law_same_items cd__law_same_items ct__law_same_items), sl__law_same_items⟩) (c__law_same_items : PySem.W.codeIn K cd__law_same_items "_law_same_items" = true) (k__law_same_items : PySem.W.keepIn K (.ref f__law_same_items) = true)
    (a__law_same : PySem.W.nsIn K mainGlobals "_law_same" = some (some (.ref f__law_same)))
    (l__law_same : K.lookup f__law_same = some ⟨oc__law_same, od__law_same, .func (PySem.W.fnOf "_law_same" "_law_same" (defArgs s__law_same) (defBody s__law_same) (defScope s__law_same) .none kV__law_same dc__law_same pm__law_same an__law_same cd__law_same ct__law_same), sl__law_same⟩) (c__law_same : PySem.W.codeIn K cd__law_same "_law_same" = true) (k__law_same : PySem.W.keepIn K (.ref f__law_same) = true)
    (a__law_instruction : PySem.W.nsIn K mainGlobals "_law_instruction" = some (some (.ref f__law_instruction)))
    (l__law_instruction : K.lookup f__law_instruction = some ⟨oc__law_instruction, od__law_instruction, .func (PySem.W.fnOf "_law_instruction" "_law_instruction" (defArgs s__law_instruction) (defBody s__law_instruction) (defScope s__law_instruction) .none kV__law_instruction dc__law_instruction pm__law_instruction an__law_instruction cd__law_instruction ct__law_instruction), sl__law_instruction⟩) (c__law_instruction : PySem.W.codeIn K cd__law_instruction "_law_instruction" = true) (k__law_instruction : PySem.W.keepIn K (.ref f__law_instruction) = true)
    (a__law_line : PySem.W.nsIn K mainGlobals "_law_line" = some (some (.ref f__law_line)))
    (l__law_line : K.lookup f__law_line = some ⟨oc__law_line, od__law_line, .func (PySem.W.fnOf "_law_line" "_law_line" (defArgs s__law_line) (defBody s__law_line) (defScope s__law_line) .none kV__law_line dc__law_line pm__law_line an__law_line cd__law_line ct__law_line), sl__law_line⟩) (c__law_line : PySem.W.codeIn K cd__law_line "_law_line" = true) (k__law_line : PySem.W.keepIn K (.ref f__law_line) = true)
    (a__law_bent : PySem.W.nsIn K mainGlobals "_law_bent" = some (some (.ref f__law_bent)))
    (l__law_bent : K.lookup f__law_bent = some ⟨oc__law_bent, od__law_bent, .func (PySem.W.fnOf "_law_bent" "_law_bent" (defArgs s__law_bent) (defBody s__law_bent) (defScope s__law_bent) .none kV__law_bent dc__law_bent pm__law_bent an__law_bent cd__law_bent ct__law_bent), sl__law_bent⟩) (c__law_bent : PySem.W.codeIn K cd__law_bent "_law_bent" = true) (k__law_bent : PySem.W.keepIn K (.ref f__law_bent) = true)
    (a__law_read : PySem.W.nsIn K mainGlobals "_law_read" = some (some (.ref f__law_read)))
    (l__law_read : K.lookup f__law_read = some ⟨oc__law_read, od__law_read, .func (PySem.W.fnOf "_law_read" "_law_read" (defArgs s__law_read) (defBody s__law_read) (defScope s__law_read) .none kV__law_read dc__law_read pm__law_read an__law_read cd__law_read ct__law_read), sl__law_read⟩) (c__law_read : PySem.W.codeIn K cd__law_read "_law_read" = true) (k__law_read : PySem.W.keepIn K (.ref f__law_read) = true)
    (a_law : PySem.W.nsIn K mainGlobals "law" = some (some (.ref f_law)))
    (l_law : K.lookup f_law = some ⟨oc_law, od_law, .func (PySem.W.fnOf "law" "law" (defArgs s_law) (defBody s_law) (defScope s_law) .none kV_law dc_law pm_law an_law cd_law ct_law), sl_law⟩) (c_law : PySem.W.codeIn K cd_law "law" = true) (k_law : PySem.W.keepIn K (.ref f_law) = true)
    (x_DIGITS : PySem.W.nsIn K mainGlobals "DIGITS" = some (some (.str zDIG t_DIGITS)))
    (x_LETTERS_OF_NAMES : PySem.W.nsIn K mainGlobals "LETTERS_OF_NAMES" = some (some (.str zNAM t_LETTERS_OF_NAMES)))
    (x_MODULUS : PySem.W.nsIn K mainGlobals "MODULUS" = some (some (.int 4294967296 t_MODULUS)))
    (x_MOST_DIGITS : PySem.W.nsIn K mainGlobals "MOST_DIGITS" = some (some (.int 10 t_MOST_DIGITS)))
    (x_ANSWERS : PySem.W.nsIn K mainGlobals "ANSWERS" = some (some (.ref p_ANSWERS))) (y_ANSWERS : K.lookup p_ANSWERS = some o_ANSWERS) (v_ANSWERS : TupObj o_ANSWERS ansL)
    (z_len : PySem.W.nsIn K mainGlobals "len" = some none)
    (z_abs : PySem.W.nsIn K mainGlobals "abs" = some none)
    (z_int : PySem.W.nsIn K mainGlobals "int" = some none)
    (z_bool : PySem.W.nsIn K mainGlobals "bool" = some none)
    (z_str : PySem.W.nsIn K mainGlobals "str" = some none)
    (z_list : PySem.W.nsIn K mainGlobals "list" = some none)
    (z_tuple : PySem.W.nsIn K mainGlobals "tuple" = some none)
    (z_dict : PySem.W.nsIn K mainGlobals "dict" = some none)
    (z_isinstance : PySem.W.nsIn K mainGlobals "isinstance" = some none)
    (z_range : PySem.W.nsIn K mainGlobals "range" = some none)
    (z_zip : PySem.W.nsIn K mainGlobals "zip" = some none)
    (z_super : PySem.W.nsIn K mainGlobals "super" = some none)
    (x_FORMS : PySem.W.nsIn K mainGlobals "FORMS" = some (some (.ref d_FORMS))) (y_FORMS : K.lookup d_FORMS = some ⟨.type "dict", none, .dict es_FORMS n_FORMS, #[]⟩) (g_DFORMS : PySem.W.KeysLit w.params es_FORMS.toList) (f_DFORMS : FEnts K es_FORMS.toList forms) (s_DFORMS : (d_FORMS == sysModules) = false)
    (xS : K.lookup C_SyntaxProblem = some (excClassObj nmS qS C_SyntaxProblem NS bsS [.ref SE, .type "ValueError", .type "Exception", .type "BaseException", .type "object"] true snS subS abS colS ddS mS0 mS1 mS2 mS3 mS5 "ValueError.__new__"))
    (saS : PySem.W.findIn K (.ref C_SyntaxProblem) "__setattr__" = some (some (.builtin "object.__setattr__")))
    (gaS : PySem.W.findIn K (.ref C_SyntaxProblem) "__getattribute__" = some (some (.builtin "BaseException.__getattribute__")))
    (ggS : PySem.W.findIn K (.ref C_SyntaxProblem) "__getattr__" = some none)
    (noS : PySem.W.findIn K (.ref C_SyntaxProblem) "start" = some none)
    (eS : PySem.W.subIn K (.ref C_SyntaxProblem) (.type "BaseException") = some true)
    (tS : PySem.W.typeIn K (.ref C_SyntaxProblem) = some (.type "type"))
    (kS : PySem.W.keepIn K (.ref C_SyntaxProblem) = true)
    (hS : PySem.W.hasDictIn K C_SyntaxProblem = true)
    (iS : PySem.W.isClsIn K C_SyntaxProblem = true)
    (ssS : PySem.W.subIn K (.ref C_SyntaxProblem) (.ref C_SyntaxProblem) = some true)
    (inS : PySem.W.findIn K (.ref C_SyntaxProblem) "__init__" = some (some (.ref fS)))
    (tiS : PySem.W.typeIn K (.ref fS) = some (.type "function"))
    (lS : K.lookup fS = some ⟨ocS, odS, .func (PySem.W.ksFn "__init__" "SyntaxProblem.__init__" (defArgs s_SyntaxProblem___init__) (defBody s_SyntaxProblem___init__) (defScope s_SyntaxProblem___init__) .none kVS dcS pmS anS (.ref cdaS) ctS ccS), oslS⟩)
    (cS : PySem.W.codeIn K (.ref cdaS) "SyntaxProblem.__init__" = true)
    (coS : K.lookup cdaS = some ⟨cclS, cddS, .fields vs2S, ccsS⟩)
    (vS : vs2S[2]? = some (.str fileS tfS))
    (fiS : ((l.prog.main.file : Str) == fileS) = true)
    (topS : (l.prog.main.scope.names.lookup ("super" : Str)).isSome = false)
    (ceS : K.lookup ccS = some ⟨clS, cldS, .cell (some (.ref C_SyntaxProblem)), cslS⟩)
    (dS : PySem.W.clsIn K C_SyntaxProblem = some cdS)
    (moS : PySem.W.mroIn K C_SyntaxProblem (.ref C_SyntaxProblem) = some true)
    (anyS : PySem.W.nsIn K cStatics "thirdparty.any" = some none)
    (suS : PySem.W.ks_superIn K C_SyntaxProblem C_SyntaxProblem "__init__" = some (some (.builtin "ValueError.__init__")))
    (veS : PySem.W.subIn K (.ref C_SyntaxProblem) (.type "ValueError") = some true) :
    ∃ fd : FuncData, (∀ (s : Shared) (v : Value), BindsTo s fd ⟨[v], []⟩ [("script", v)]) ∧ ∀ base : Heap, K.In base → base.Ns mainGlobals mg → FnOk l.prog w K mg base CX0 11 fa fd ["script"] (spLaw K) := by
  have e := hfa.symm.trans (PySem.W.mg_of X G a_law)
  cases e
  have F_run_end := fun_mk (st := s_run_end) l_run_end c_run_end k_run_end
  have b_run_end := F_run_end.binds (ps := ["text", "at", "letters"]) fun _ _ _ _ _ _ us hl => match us, hl with | [_, _, _], _ => rfl
  have m_run_end := PySem.W.mg_of X G a_run_end
  have F_line_of := fun_mk (st := s_line_of) l_line_of c_line_of k_line_of
  have b_line_of := F_line_of.binds (ps := ["instruction"]) fun _ _ _ _ _ _ us hl => match us, hl with | [_], _ => rfl
  have m_line_of := PySem.W.mg_of X G a_line_of
  have F_write_code := fun_mk (st := s_write_code) l_write_code c_write_code k_write_code
  have b_write_code := F_write_code.binds (ps := ["code"]) fun _ _ _ _ _ _ us hl => match us, hl with | [_], _ => rfl
  have m_write_code := PySem.W.mg_of X G a_write_code
  have F_is_name := fun_mk (st := s_is_name) l_is_name c_is_name k_is_name
  have b_is_name := F_is_name.binds (ps := ["word"]) fun _ _ _ _ _ _ us hl => match us, hl with | [_], _ => rfl
  have m_is_name := PySem.W.mg_of X G a_is_name
  have F_is_number := fun_mk (st := s_is_number) l_is_number c_is_number k_is_number
  have b_is_number := F_is_number.binds (ps := ["word"]) fun _ _ _ _ _ _ us hl => match us, hl with | [_], _ => rfl
  have m_is_number := PySem.W.mg_of X G a_is_number
  have F_read_part := fun_mk (st := s_read_part) l_read_part c_read_part k_read_part
  have b_read_part := F_read_part.binds (ps := ["sort", "word"]) fun _ _ _ _ _ _ us hl => match us, hl with | [_, _], _ => rfl
  have m_read_part := PySem.W.mg_of X G a_read_part
  have F_read_parts := fun_mk (st := s_read_parts) l_read_parts c_read_parts k_read_parts
  have b_read_parts := F_read_parts.binds (ps := ["sorts", "words"]) fun _ _ _ _ _ _ us hl => match us, hl with | [_, _], _ => rfl
  have m_read_parts := PySem.W.mg_of X G a_read_parts
  have F_read_wait := fun_mk (st := s_read_wait) l_read_wait c_read_wait k_read_wait
  have b_read_wait := F_read_wait.binds (ps := ["words"]) fun _ _ _ _ _ _ us hl => match us, hl with | [_], _ => rfl
  have m_read_wait := PySem.W.mg_of X G a_read_wait
  have F_read_line := fun_mk (st := s_read_line) l_read_line c_read_line k_read_line
  have b_read_line := F_read_line.binds (ps := ["line"]) fun _ _ _ _ _ _ us hl => match us, hl with | [_], _ => rfl
  have m_read_line := PySem.W.mg_of X G a_read_line
  have F_read_code := fun_mk (st := s_read_code) l_read_code c_read_code k_read_code
  have b_read_code := F_read_code.binds (ps := ["text"]) fun _ _ _ _ _ _ us hl => match us, hl with | [_], _ => rfl
  have m_read_code := PySem.W.mg_of X G a_read_code
  have F__law_tape := fun_mk (st := s__law_tape) l__law_tape c__law_tape k__law_tape
  have b__law_tape := F__law_tape.binds (ps := ["script"]) fun _ _ _ _ _ _ us hl => match us, hl with | [_], _ => rfl
  have m__law_tape := PySem.W.mg_of X G a__law_tape
  have F__law_take := fun_mk (st := s__law_take) l__law_take c__law_take k__law_take
  have b__law_take := F__law_take.binds (ps := ["tape", "many"]) fun _ _ _ _ _ _ us hl => match us, hl with | [_, _], _ => rfl
  have m__law_take := PySem.W.mg_of X G a__law_take
  have F__law_is_integer := fun_mk (st := s__law_is_integer) l__law_is_integer c__law_is_integer k__law_is_integer
  have b__law_is_integer := F__law_is_integer.binds (ps := ["actual"]) fun _ _ _ _ _ _ us hl => match us, hl with | [_], _ => rfl
  have m__law_is_integer := PySem.W.mg_of X G a__law_is_integer
  have F__law_same_items := fun_mk (st := s__law_same_items) l__law_same_items c__law_same_items k__law_same_items
  have b__law_same_items := F__law_same_items.binds (ps := ["actual", "expected"]) fun _ _ _ _ _ _ us hl => match us, hl with | [_, _], _ => rfl
  have m__law_same_items := PySem.W.mg_of X G a__law_same_items
  have F__law_same := fun_mk (st := s__law_same) l__law_same c__law_same k__law_same
  have b__law_same := F__law_same.binds (ps := ["actual", "expected"]) fun _ _ _ _ _ _ us hl => match us, hl with | [_, _], _ => rfl
  have m__law_same := PySem.W.mg_of X G a__law_same
  have F__law_instruction := fun_mk (st := s__law_instruction) l__law_instruction c__law_instruction k__law_instruction
  have b__law_instruction := F__law_instruction.binds (ps := ["tape"]) fun _ _ _ _ _ _ us hl => match us, hl with | [_], _ => rfl
  have m__law_instruction := PySem.W.mg_of X G a__law_instruction
  have F__law_line := fun_mk (st := s__law_line) l__law_line c__law_line k__law_line
  have b__law_line := F__law_line.binds (ps := ["one"]) fun _ _ _ _ _ _ us hl => match us, hl with | [_], _ => rfl
  have m__law_line := PySem.W.mg_of X G a__law_line
  have F__law_bent := fun_mk (st := s__law_bent) l__law_bent c__law_bent k__law_bent
  have b__law_bent := F__law_bent.binds (ps := ["tape", "text"]) fun _ _ _ _ _ _ us hl => match us, hl with | [_, _], _ => rfl
  have m__law_bent := PySem.W.mg_of X G a__law_bent
  have F__law_read := fun_mk (st := s__law_read) l__law_read c__law_read k__law_read
  have b__law_read := F__law_read.binds (ps := ["text"]) fun _ _ _ _ _ _ us hl => match us, hl with | [_], _ => rfl
  have m__law_read := PySem.W.mg_of X G a__law_read
  have F_law := fun_mk (st := s_law) l_law c_law k_law
  have b_law := F_law.binds (ps := ["script"]) fun _ _ _ _ _ _ us hl => match us, hl with | [_], _ => rfl
  have m_law := PySem.W.mg_of X G a_law
  have X_DIGITS := PySem.W.mg_of X G x_DIGITS
  have X_LETTERS_OF_NAMES := PySem.W.mg_of X G x_LETTERS_OF_NAMES
  have X_MODULUS := PySem.W.mg_of X G x_MODULUS
  have X_MOST_DIGITS := PySem.W.mg_of X G x_MOST_DIGITS
  have X_ANSWERS := PySem.W.mg_of X G x_ANSWERS
  have X_FORMS := PySem.W.mg_of X G x_FORMS
  have Z_len := PySem.W.mg_none_of X G z_len
  have Z_abs := PySem.W.mg_none_of X G z_abs
  have Z_int := PySem.W.mg_none_of X G z_int
  have Z_bool := PySem.W.mg_none_of X G z_bool
  have Z_str := PySem.W.mg_none_of X G z_str
  have Z_list := PySem.W.mg_none_of X G z_list
  have Z_tuple := PySem.W.mg_none_of X G z_tuple
  have Z_dict := PySem.W.mg_none_of X G z_dict
  have Z_isinstance := PySem.W.mg_none_of X G z_isinstance
  have Z_range := PySem.W.mg_none_of X G z_range
  have Z_zip := PySem.W.mg_none_of X G z_zip
  have Z_super := PySem.W.mg_none_of X G z_super
  have X_SyntaxProblem := PySem.W.mg_of X G aC_SyntaxProblem
  have T : Txt K mg := ⟨Z_len, Z_abs, Z_int, Z_bool, Z_str, Z_list, Z_tuple, Z_dict, Z_isinstance, Z_range, Z_zip⟩
  have TC : CodTxt K w mg := ⟨⟨_, X_DIGITS⟩, ⟨_, X_LETTERS_OF_NAMES⟩, ⟨_, X_MODULUS⟩, ⟨_, X_MOST_DIGITS⟩, ⟨_, X_ANSWERS, fun H => v_ANSWERS.seq y_ANSWERS⟩, ⟨_, _, _, X_FORMS, ⟨y_FORMS, g_DFORMS, s_DFORMS⟩, (forms_ns y_FORMS f_DFORMS).1, (forms_ns y_FORMS f_DFORMS).2⟩⟩
  have RE : XfC K C_SyntaxProblem := ⟨gaS, ggS, eS, hS⟩
  refine ⟨PySem.W.fnOf "law" "law" (defArgs s_law) (defBody s_law) (defScope s_law) .none kV_law dc_law pm_law an_law cd_law ct_law, fun s v => .of_eq rfl, fun base _ _ => ?_⟩
  have OE : OexC K C_SyntaxProblem := ⟨⟨_, _, _, _, _, _, _, _, _, _, _, _, _, _, _, xS, rfl⟩, saS, eS, tS, kS⟩
  have GE := fn_super (P := l.prog) (w := w) (mg := mg) (base := base) (msg := "the text cannot be read") (fld := "start") (arg := "start") lS cS OE (by rfl) (by rfl) (by rfl) (by rfl) (by decide +kernel) rfl rfl rfl (by rfl) (by rfl) (by decide +kernel) (by decide +kernel) coS vS fiS topS ceS dS moS Z_super anyS suS veS noS (fun env => ⟨_, rfl⟩)
  have O_SyntaxProblem : OCal l.prog w K mg base C_SyntaxProblem "SyntaxProblem" "start" fS _ := ⟨OE, inS, tiS, GE, Binds.all fun us hl => (match us, hl with | [_, _], _ => rfl), X_SyntaxProblem⟩
  have C_run_end : Cal l.prog w K mg base 1 _ _ spRun _ _ := ⟨ok_run_end F_run_end T, b_run_end, k_run_end, m_run_end⟩
  have C_is_name : Cal l.prog w K mg base 2 _ _ spNm _ _ := ⟨ok_is_name F_is_name T TC C_run_end, b_is_name, k_is_name, m_is_name⟩
  have C_is_number : Cal l.prog w K mg base 2 _ _ spNum _ _ := ⟨ok_is_number F_is_number T TC C_run_end, b_is_number, k_is_number, m_is_number⟩
  have C_read_part : Cal l.prog w K mg base 3 _ _ spPart _ _ := ⟨ok_read_part F_read_part T TC C_is_name C_is_number, b_read_part, k_read_part, m_read_part⟩
  have C_read_parts : Cal l.prog w K mg base 4 _ _ (spParts K) _ _ := ⟨ok_read_parts F_read_parts T C_read_part, b_read_parts, k_read_parts, m_read_parts⟩
  have C_read_wait : Cal l.prog w K mg base 5 _ _ (spWait K) _ _ := ⟨ok_read_wait F_read_wait T C_is_name C_read_parts, b_read_wait, k_read_wait, m_read_wait⟩
  have C_read_line : Cal l.prog w K mg base 6 _ _ (spLine K) _ _ := ⟨ok_read_line F_read_line T TC C_read_parts C_read_wait, b_read_line, k_read_line, m_read_line⟩
  have C_read_code : CalX l.prog w K mg base 7 _ _ (spCode K C_SyntaxProblem) _ _ := ⟨ok_read_code F_read_code T O_SyntaxProblem C_read_line, b_read_code, k_read_code, m_read_code⟩
  have C_line_of : Cal l.prog w K mg base 1 _ _ (spLn K) _ _ := ⟨ok_line_of F_line_of T, b_line_of, k_line_of, m_line_of⟩
  have C_write_code : Cal l.prog w K mg base 2 _ _ (spWc K) _ _ := ⟨ok_write_code F_write_code T C_line_of, b_write_code, k_write_code, m_write_code⟩
  have C__law_take : Cal l.prog w K mg base 1 _ _ spTake _ _ := ⟨ok_law_take F__law_take T, b__law_take, k__law_take, m__law_take⟩
  have C__law_tape : Cal l.prog w K mg base 1 _ _ (spTape K) _ _ := ⟨ok_law_tape F__law_tape T, b__law_tape, k__law_tape, m__law_tape⟩
  have C__law_instruction : Cal l.prog w K mg base 2 _ _ (spIn K) _ _ := ⟨ok_law_instruction F__law_instruction T C__law_take, b__law_instruction, k__law_instruction, m__law_instruction⟩
  have C__law_line : Cal l.prog w K mg base 1 _ _ (spLL K) _ _ := ⟨ok_law_line F__law_line T, b__law_line, k__law_line, m__law_line⟩
  have C__law_bent : Cal l.prog w K mg base 2 _ _ spBent _ _ := ⟨ok_law_bent F__law_bent T C__law_take, b__law_bent, k__law_bent, m__law_bent⟩
  have C__law_read : Cal l.prog w K mg base 8 _ _ (spRead K) _ _ := ⟨ok_law_read F__law_read T RE noS (exm_is eS iS tS ssS) X_SyntaxProblem C_read_code, b__law_read, k__law_read, m__law_read⟩
  have C__law_same : Cal l.prog w K mg base 10 _ _ (spSame K 5) _ _ := ⟨same_all T F__law_is_integer b__law_is_integer m__law_is_integer F__law_same_items b__law_same_items m__law_same_items F__law_same b__law_same m__law_same 5, b__law_same, k__law_same, m__law_same⟩
  exact ok_law F_law T C__law_take C__law_tape C__law_instruction C__law_line C_write_code C_read_code C__law_bent C__law_read C__law_same
theorem walk {l : PySem.W.OpenLaw} {q : Program} {loose : List Str} {XP : (Str → Option Value) → Heap → Prop} {YP : World → Heap → Prop} {d : DefRec} {K : Params → PySem.W.Frag} (hn : l.most = some 63) (hdf : d.params.defaults = [])
    (hY : ∀ (w : World) (h : Heap), YP w h → (K w.params).In h)
    (F : ∀ (w : World) (mg : Str → Option Value) (fa : Addr) (h : Heap), (K w.params).In h → h.Ns mainGlobals mg → mg d.name = some (.ref fa) →
      ∃ fd : FuncData, (∀ (s : Shared) (u : Value), BindsTo s fd ⟨[u], []⟩ [("script", u)]) ∧ ∀ base : Heap, (K w.params).In base → base.Ns mainGlobals mg → FnOk l.prog w (K w.params) mg base CX0 11 fa fd ["script"] (spLaw (K w.params))) :
    PySem.W.WalkO q loose XP YP l.row.toRowW d [] (fun f vs => PySem.call f vs) :=
  L2.walk_of (n := 63) (k := 11) (x := "script") (CX := fun _ => CX0) (sp := fun w => spLaw (K w.params)) hn (by decide) hdf ⟨rfl, by decide, by decide⟩ hY F (fun _ _ a ns hl _ hS => ⟨a, ns, rfl, hS, hl, fun _ => rfl⟩) fun _ _ _ _ _ z => z
end OS

open PySem PySem.W PyProof.Rows in
set_option maxRecDepth 100000 in
set_option maxHeartbeats 0 in
theorem PySem.Challenge.cw_onescore_k35_texts_of_code_holds : PySem.Challenge.rw_onescore_k35_texts_of_code.Holds := by
  w_on; o_law; k_head; (case hw => w_witness2)
  k_fill
  refine OS.walk (l := PySem.Challenge.rw_onescore_k35_texts_of_code) rfl rfl (fun w h Y => PySem.W.kIn_of Y) ?F
  case F =>
    intro w mg fa h KX G hmg
    refine' OS.all_mk KX G hmg ?aC_SyntaxProblem ?a_run_end ?l_run_end ?c_run_end ?k_run_end ?a_line_of ?l_line_of ?c_line_of ?k_line_of ?a_write_code ?l_write_code ?c_write_code ?k_write_code ?a_is_name ?l_is_name ?c_is_name ?k_is_name ?a_is_number ?l_is_number ?c_is_number ?k_is_number ?a_read_part ?l_read_part ?c_read_part ?k_read_part ?a_read_parts ?l_read_parts ?c_read_parts ?k_read_parts ?a_read_wait ?l_read_wait ?c_read_wait ?k_read_wait ?a_read_line ?l_read_line ?c_read_line ?k_read_line ?a_read_code ?l_read_code ?c_read_code ?k_read_code ?a__law_tape ?l__law_tape ?c__law_tape ?k__law_tape ?a__law_take ?l__law_take ?c__law_take ?k__law_take ?a__law_is_integer ?l__law_is_integer ?c__law_is_integer ?k__law_is_integer ?a__law_same_items ?l__law_same_items ?c__law_same_items ?k__law_same_items ?a__law_same ?l__law_same ?c__law_same ?k__law_same ?a__law_instruction ?l__law_instruction ?c__law_instruction ?k__law_instruction ?a__law_line ?l__law_line ?c__law_line ?k__law_line ?a__law_bent ?l__law_bent ?c__law_bent ?k__law_bent ?a__law_read ?l__law_read ?c__law_read ?k__law_read ?a_law ?l_law ?c_law ?k_law ?x_DIGITS ?x_LETTERS_OF_NAMES ?x_MODULUS ?x_MOST_DIGITS ?x_ANSWERS ?y_ANSWERS ?v_ANSWERS ?z_len ?z_abs ?z_int ?z_bool ?z_str ?z_list ?z_tuple ?z_dict ?z_isinstance ?z_range ?z_zip ?z_super ?x_FORMS ?y_FORMS ?g_DFORMS ?f_DFORMS ?s_DFORMS ?xS ?saS ?gaS ?ggS ?noS ?eS ?tS ?kS ?hS ?iS ?ssS ?inS ?tiS ?lS ?cS ?coS ?vS ?fiS ?topS ?ceS ?dS ?moS ?anyS ?suS ?veS
    (case aC_SyntaxProblem => k_is)
    (case a_run_end => k_is)
    (case l_run_end => k_is)
    (case c_run_end => k_is)
    (case k_run_end => k_is)
    (case a_line_of => k_is)
    (case l_line_of => k_is)
    (case c_line_of => k_is)
    (case k_line_of => k_is)
    (case a_write_code => k_is)
    (case l_write_code => k_is)
    (case c_write_code => k_is)
    (case k_write_code => k_is)
    (case a_is_name => k_is)
    (case l_is_name => k_is)
    (case c_is_name => k_is)
    (case k_is_name => k_is)
    (case a_is_number => k_is)
    (case l_is_number => k_is)
    (case c_is_number => k_is)
    (case k_is_number => k_is)
    (case a_read_part => k_is)
    (case l_read_part => k_is)
    (case c_read_part => k_is)
    (case k_read_part => k_is)
    (case a_read_parts => k_is)
    (case l_read_parts => k_is)
    (case c_read_parts => k_is)
    (case k_read_parts => k_is)
    (case a_read_wait => k_is)
    (case l_read_wait => k_is)
    (case c_read_wait => k_is)
    (case k_read_wait => k_is)
    (case a_read_line => k_is)
    (case l_read_line => k_is)
    (case c_read_line => k_is)
    (case k_read_line => k_is)
    (case a_read_code => k_is)
    (case l_read_code => k_is)
    (case c_read_code => k_is)
    (case k_read_code => k_is)
    (case a__law_tape => k_is)
    (case l__law_tape => k_is)
    (case c__law_tape => k_is)
    (case k__law_tape => k_is)
    (case a__law_take => k_is)
    (case l__law_take => k_is)
    (case c__law_take => k_is)
    (case k__law_take => k_is)
    (case a__law_is_integer => k_is)
    (case l__law_is_integer => k_is)
    (case c__law_is_integer => k_is)
    (case k__law_is_integer => k_is)
    (case a__law_same_items => k_is)
    (case l__law_same_items => k_is)
    (case c__law_same_items => k_is)
    (case k__law_same_items => k_is)
    (case a__law_same => k_is)
    (case l__law_same => k_is)
    (case c__law_same => k_is)
    (case k__law_same => k_is)
    (case a__law_instruction => k_is)
    (case l__law_instruction => k_is)
    (case c__law_instruction => k_is)
    (case k__law_instruction => k_is)
    (case a__law_line => k_is)
    (case l__law_line => k_is)
    (case c__law_line => k_is)
    (case k__law_line => k_is)
    (case a__law_bent => k_is)
    (case l__law_bent => k_is)
    (case c__law_bent => k_is)
    (case k__law_bent => k_is)
    (case a__law_read => k_is)
    (case l__law_read => k_is)
    (case c__law_read => k_is)
    (case k__law_read => k_is)
    (case a_law => k_is)
    (case l_law => k_is)
    (case c_law => k_is)
    (case k_law => k_is)
    (case x_DIGITS => k_is)
    (case x_LETTERS_OF_NAMES => k_is)
    (case x_MODULUS => k_is)
    (case x_MOST_DIGITS => k_is)
    (case x_ANSWERS => k_is)
    (case y_ANSWERS => k_is)
    (case v_ANSWERS => (exact ⟨_, _, rfl, rfl, by decide, by repeat (first | exact .nil | refine .cons ⟨_, rfl⟩ ?_)⟩))
    (case z_len => k_is)
    (case z_abs => k_is)
    (case z_int => k_is)
    (case z_bool => k_is)
    (case z_str => k_is)
    (case z_list => k_is)
    (case z_tuple => k_is)
    (case z_dict => k_is)
    (case z_isinstance => k_is)
    (case z_range => k_is)
    (case z_zip => k_is)
    (case z_super => k_is)
    (case x_FORMS => k_is)
    (case y_FORMS => k_is)
    (case g_DFORMS => repeat (first | exact trivial | refine ⟨⟨_, _, rfl, rfl⟩, ?_⟩))
    (case f_DFORMS => repeat (first | exact OS.fe_nil | apply OS.fe_cons | exact ⟨_, _, rfl, rfl, by decide, by repeat (first | exact .nil | refine .cons ⟨_, rfl⟩ ?_)⟩ | k_is | rfl))
    (case s_DFORMS => decide +kernel)
    (case xS => k_is)
    (case saS => k_is)
    (case gaS => k_is)
    (case ggS => k_is)
    (case noS => k_is)
    (case eS => k_is)
    (case tS => k_is)
    (case kS => k_is)
    (case hS => k_is)
    (case iS => k_is)
    (case ssS => first | rfl | k_is)
    (case inS => k_is)
    (case tiS => k_is)
    (case lS => k_is)
    (case cS => k_is)
    (case coS => k_is)
    (case vS => first | rfl | decide +kernel)
    (case fiS => first | rfl | decide +kernel)
    (case topS => first | rfl | decide +kernel)
    (case ceS => k_is)
    (case dS => first | k_is | rfl)
    (case moS => k_is)
    (case anyS => k_is)
    (case suS => ks_is)
    (case veS => k_is)
