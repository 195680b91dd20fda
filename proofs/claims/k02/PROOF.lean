import PyProof.Rows.All
import Wide.All
import OpenK.AllK
import Wide.FinOn
import HandS.Evl
import HandS.ExcField
import HandS.ExcInit
import HandS.ExcIs
import HandS.FStr
import HandS.ForExc
import HandS.ForMost
import HandS.HotCalls
import HandS.IsInst
import HandS.RaiseMore
import HandS.StrMore
import HandS.Style
import HandS.TupAny
import KE.KExcIs
import KE.KExcSuper
import KE.RegKSuper
import PySem.Challenge.RW_onescore_k02_trees_are_read_as_printed
set_option Elab.async false
set_option linter.all false
set_option maxRecDepth 100000
/-! Plain mathematics of tokens: texts as lists of code points. -/
namespace OS
/-- where the run of signs with p stops that begins at i -/
def run (p : Nat → Bool) (cs : List Nat) (i : Nat) : Nat := i + ((cs.drop i).takeWhile p).length
theorem run_le (p : Nat → Bool) (cs : List Nat) {i : Nat} (h : i ≤ cs.length) : run p cs i ≤ cs.length := by
  have h1 : ((cs.drop i).takeWhile p).length ≤ (cs.drop i).length := (List.takeWhile_sublist p).length_le
  rw [List.length_drop] at h1
  unfold run
  omega
theorem le_run (p : Nat → Bool) (cs : List Nat) (i : Nat) : i ≤ run p cs i := Nat.le_add_right _ _
theorem drop_at {cs : List Nat} {i c : Nat} (h : cs[i]? = some c) : cs.drop i = c :: cs.drop (i + 1) := by
  obtain ⟨hi, e⟩ := List.getElem?_eq_some_iff.mp h
  rw [List.drop_eq_getElem_cons hi, e]
theorem run_go {p : Nat → Bool} {cs : List Nat} {i c : Nat} (h : cs[i]? = some c) (hp : p c = true) : run p cs i = run p cs (i + 1) := by
  unfold run
  rw [drop_at h, List.takeWhile_cons, if_pos hp, List.length_cons]
  omega
theorem run_stop {p : Nat → Bool} {cs : List Nat} {i c : Nat} (h : cs[i]? = some c) (hp : p c = false) : run p cs i = i := by
  unfold run
  rw [drop_at h, List.takeWhile_cons, hp]
  simp
theorem run_end {p : Nat → Bool} {cs : List Nat} {i : Nat} (h : cs.length ≤ i) : run p cs i = i := by
  unfold run
  rw [List.drop_eq_nil_of_le h]
  simp
theorem run_congr {p q : Nat → Bool} (h : ∀ c, p c = q c) (cs : List Nat) (i : Nat) : run p cs i = run q cs i := by
  have e : p = q := funext h
  rw [e]
theorem run_gt {p : Nat → Bool} {cs : List Nat} {i c : Nat} (h : cs[i]? = some c) (hp : p c = true) : i < run p cs i := by
  rw [run_go h hp]
  exact Nat.lt_of_lt_of_le (Nat.lt_succ_self i) (le_run p cs (i + 1))

def isLetter (c : Nat) : Bool := (decide (97 ≤ c) && decide (c ≤ 122)) || (decide (65 ≤ c) && decide (c ≤ 90))
def isDigit (c : Nat) : Bool := decide (48 ≤ c) && decide (c ≤ 57)
def isName (c : Nat) : Bool := isLetter c || (isDigit c || c == 95)
def notNl (c : Nat) : Bool := c != 10
/-- the sort and the end of the token at i; words tells which stretches are words, longs which two signs stand together, signs the rest -/
structure Tab where
  word : List Nat → Bool
  long : List Nat → Bool
  sign : Nat → Bool
inductive Srt where
  | word | name | number | sign | wrong
  deriving DecidableEq
def tokAt (T : Tab) (cs : List Nat) (i : Nat) : Srt × Nat :=
  match cs[i]? with
  | none => (.wrong, i + 1)
  | some c =>
    if isLetter c = true then
      (if T.word ((cs.drop i).take (run isName cs i - i)) = true then .word else .name, run isName cs i)
    else if isDigit c = true then (.number, run isDigit cs i)
    else if T.long ((cs.drop i).take 2) = true then (.sign, i + 2)
    else (if T.sign c = true then .sign else .wrong, i + 1)
theorem letter_name {c : Nat} (h : isLetter c = true) : isName c = true := by
  unfold isName; rw [h]; rfl
theorem tokAt_gt (T : Tab) (cs : List Nat) (i : Nat) : i < (tokAt T cs i).2 := by
  unfold tokAt
  cases e : cs[i]? with
  | none => exact Nat.lt_succ_self i
  | some c =>
    dsimp only
    by_cases h1 : isLetter c = true
    · rw [if_pos h1]; exact run_gt e (letter_name h1)
    · rw [if_neg h1]
      by_cases h2 : isDigit c = true
      · rw [if_pos h2]; exact run_gt e h2
      · rw [if_neg h2]
        by_cases h3 : T.long ((cs.drop i).take 2) = true
        · rw [if_pos h3]; show i < i + 2; omega
        · rw [if_neg h3]; show i < i + 1; omega

theorem tokAt_le (T : Tab) (cs : List Nat) {i : Nat} (h : i < cs.length) : (tokAt T cs i).2 ≤ cs.length + 1 := by
  unfold tokAt
  cases e : cs[i]? with
  | none => show i + 1 ≤ _; omega
  | some c =>
    dsimp only
    by_cases h1 : isLetter c = true
    · rw [if_pos h1]; exact Nat.le_succ_of_le (run_le _ cs (by omega))
    · rw [if_neg h1]
      by_cases h2 : isDigit c = true
      · rw [if_pos h2]; exact Nat.le_succ_of_le (run_le _ cs (by omega))
      · rw [if_neg h2]
        by_cases h3 : T.long ((cs.drop i).take 2) = true
        · rw [if_pos h3]; show i + 2 ≤ _; omega
        · rw [if_neg h3]; show i + 1 ≤ _; omega

structure Tk where
  s : Srt
  a : Nat
  b : Nat
/-- the tokens from i on -/
inductive Toks (T : Tab) (cs : List Nat) : Nat → List Tk → Prop
  | done {i : Nat} : cs.length ≤ i → Toks T cs i []
  | skip {i c : Nat} {L : List Tk} : cs[i]? = some c → (c = 32 ∨ c = 10) → Toks T cs (i + 1) L → Toks T cs i L
  | note {i : Nat} {L : List Tk} : cs[i]? = some 35 → Toks T cs (run notNl cs i) L → Toks T cs i L
  | tok {i c : Nat} {L : List Tk} : cs[i]? = some c → ¬ (c = 32 ∨ c = 10) → c ≠ 35 → Toks T cs (tokAt T cs i).2 L → Toks T cs i (⟨(tokAt T cs i).1, i, (tokAt T cs i).2⟩ :: L)
theorem Toks.det {T : Tab} {cs : List Nat} {i : Nat} {L M : List Tk} (h : Toks T cs i L) : Toks T cs i M → L = M := by
  induction h generalizing M with
  | done h =>
    intro g
    cases g with
    | done _ => rfl
    | skip e _ _ => rw [List.getElem?_eq_none h] at e; cases e
    | note e _ => rw [List.getElem?_eq_none h] at e; cases e
    | tok e _ _ _ => rw [List.getElem?_eq_none h] at e; cases e
  | skip e hc _ ih =>
    intro g
    cases g with
    | done h => rw [List.getElem?_eq_none h] at e; cases e
    | skip e' _ g => exact ih g
    | note e' _ => rw [e] at e'; injection e' with e'; omega
    | tok e' n _ _ => rw [e] at e'; injection e' with e'; rw [e'] at hc; exact absurd hc n
  | note e _ ih =>
    intro g
    cases g with
    | done h => rw [List.getElem?_eq_none h] at e; cases e
    | skip e' hc _ => rw [e] at e'; injection e' with e'; omega
    | note _ g => exact ih g
    | tok e' _ n _ => rw [e] at e'; injection e' with e'; exact absurd e'.symm n
  | tok e n1 n2 _ ih =>
    intro g
    cases g with
    | done h => rw [List.getElem?_eq_none h] at e; cases e
    | skip e' hc _ => rw [e] at e'; injection e' with e'; rw [e'] at n1; exact absurd hc n1
    | note e' _ => rw [e] at e'; injection e' with e'; exact absurd e' n2
    | tok _ _ _ g => rw [ih g]
end OS

/-! What all laws share: callees, data, heaps. -/
namespace OS
open PySem PySem.Spec PyProof.Rows L2
/-- a def that may be called: it keeps its promise, binds its parameters, stands at its name -/
structure Cal (P : Program) (w : World) (K : PySem.W.Frag) (mg : Str → Option Value) (base : Heap) (k : Nat) (x : Str) (ps : List Str) (sp : Sp) (f : Addr) (fd : FuncData) : Prop where
  G : FnOk P w K mg base CX0 k f fd ps sp
  b : Binds K fd ps []
  k : PySem.W.keepIn K (.ref f) = true
  m : mg x = some (.ref f)
theorem relS {z : Str} {t : Tok} : RelV (.str z) (.str z t) := ⟨t, rfl⟩
theorem relI {z : Int} {t : Tok} : RelV (.int z) (.int z t) := ⟨t, rfl⟩
theorem relR {a : Addr} : RelV (.ref a) (.ref a) := rfl
theorem same_upd {H : Hp} {p : Addr} {o : HO} (h : H p = none) : Same H (upd H p o) := fun b x e => by
  rw [upd_ne (ne_of_none e h)]
  exact e
theorem Same.tup {K : PySem.W.Frag} {H H' : Hp} {a : Addr} {xs : List V} (e : Same H H') (h : SqT K H a xs) : SqT K H' a xs := by
  rcases h with (h | ⟨o, h⟩) | h
  · exact .inl (.inl (e _ _ h))
  · exact .inl (.inr ⟨o, e _ _ h⟩)
  · exact .inr h
theorem sz6 {n : Nat} (h : n ≤ 100000) : n ≤ sizeLine := Nat.le_trans h (by decide)
theorem sz6' {n : Nat} (h : n < 100000) : n < sizeLine := Nat.lt_of_lt_of_le h (by decide)
/-- the sign at i of a text -/
theorem atI_cps {z : Str} {i c : Nat} (h : z.cps.toList[i]? = some c) : atI z.cps.toList (i : Int) = some c := atI_nat h
theorem len_cps (z : Str) : z.length = z.cps.toList.length := by
  unfold Str.length
  exact (Array.length_toList).symm
/-- a slice of a text by two places within it -/
theorem cut_mid {z : Str} {i j : Nat} (h1 : i ≤ j) (h2 : j ≤ z.length) : cutS z (some (i : Int)) (some (j : Int)) = ⟨((z.cps.toList.drop i).take (j - i)).toArray⟩ := by
  unfold cutS
  rw [HT.sIx_nat, HT.sIx_nat, Nat.min_eq_left (show i ≤ z.length by omega), Nat.min_eq_left h2]
theorem cut_mid' {z : Str} {i j : Nat} (h1 : i ≤ z.length) (h2 : i ≤ j) : cutS z (some (i : Int)) (some (j : Int)) = ⟨((z.cps.toList.drop i).take (j - i)).toArray⟩ := by
  unfold cutS
  rw [HT.sIx_nat, HT.sIx_nat, Nat.min_eq_left h1]
  by_cases h : j ≤ z.length
  · rw [Nat.min_eq_left h]
  · rw [Nat.min_eq_right (show z.length ≤ j by omega)]
    have e1 : ∀ n, z.length - i ≤ n → (z.cps.toList.drop i).take n = z.cps.toList.drop i := fun n hn => List.take_of_length_le (by rw [List.length_drop, ← len_cps]; exact hn)
    rw [e1 _ (Nat.le_refl _), e1 _ (by omega)]
theorem cut_from {z : Str} {i : Nat} (h1 : i ≤ z.length) : cutS z (some (i : Int)) none = ⟨(z.cps.toList.drop i).toArray⟩ := by
  unfold cutS
  rw [HT.sIx_nat, HT.sIx_none, Nat.min_eq_left h1]
  rw [List.take_of_length_le]
  rw [List.length_drop, ← len_cps]
  exact Nat.le_refl _
/-- one sign in a text: the pure test -/
def inS (z : Str) (c : Nat) : Bool := decide (c ∈ z.cps.toList)
/-- «for c in text» by an invariant over the turns -/
theorem for_str {x : Str} {g : TG} {tb : TS} {D : Ends} {σ : L2.St} {H : Hp} (Pv : Nat → L2.St → Hp → Prop) (h0 : Pv 0 σ H)
    (hs : ∀ i c σ H, x.cps.toList[i]? = some c → Pv i σ H → g (.str ⟨#[c]⟩) σ H fun σ2 H2 => tb { D with nx := Pv (i + 1), ct := Pv (i + 1), bk := D.nx } σ2 H2) (hd : ∀ σ H, Pv x.cps.toList.length σ H → D.nx σ H) :
    ∃ W : Nat → Nat → L2.St → Hp → Prop, (∃ m, W 0 m σ H) ∧ ∀ i m σ H, W i m σ H →
      ((Its x).stop i H ∧ D.nx σ H) ∨ ((Its x).go i H ∧ ∃ N : L2.St → Hp → Prop, (∀ σ' H', N σ' H' → ∃ m', m' < m ∧ W (i + 1) m' σ' H') ∧ ∀ v H', (Its x).yld i H v H' → g v σ H' fun σ2 H2 => tb { D with nx := N, ct := N, bk := D.nx } σ2 H2) := by
  refine ⟨fun i m σ H => m = x.cps.size - i ∧ i ≤ x.cps.size ∧ Pv i σ H, ⟨x.cps.size, by simp, Nat.zero_le _, h0⟩, ?_⟩
  rintro i m σ H ⟨rfl, hi, p⟩
  by_cases hlt : i < x.cps.size
  · refine .inr ⟨hlt, Pv (i + 1), fun σ' H' p' => ⟨x.cps.size - (i + 1), by omega, rfl, hlt, p'⟩, fun v H' y => ?_⟩
    obtain ⟨e, c, ec, rfl⟩ := y
    subst e
    exact hs i c σ _ (by rw [Array.getElem?_toList]; exact ec) p
  · have e : i = x.cps.size := by omega
    subst e
    exact .inl ⟨Nat.le_refl _, hd σ H (by rw [Array.length_toList]; exact p)⟩
/-! ### data: trees of None, bools, ints, texts, tuples, lists -/
inductive Dt where
  | non | bl (b : Bool) | int (i : Int) | str (x : Str) | tup (xs : List Dt) | lst (xs : List Dt)
mutual
/-- v holds the datum -/
def At (K : PySem.W.Frag) (H : Hp) : Dt → V → Prop
  | .non, v => v = .non
  | .bl b, v => v = .bl b
  | .int i, v => v = .int i
  | .str x, v => v = .str x
  | .tup xs, v => ∃ p vs, v = .ref p ∧ H p = some (.tup vs) ∧ AtL K H xs vs
  | .lst xs, v => ∃ p vs, v = .ref p ∧ H p = some (.lst vs) ∧ AtL K H xs vs
def AtL (K : PySem.W.Frag) (H : Hp) : List Dt → List V → Prop
  | [], vs => vs = []
  | d :: ds, vs => ∃ v r, vs = v :: r ∧ At K H d v ∧ AtL K H ds r
end
theorem AtL.length {K : PySem.W.Frag} {H : Hp} : ∀ {ds : List Dt} {vs : List V}, AtL K H ds vs → vs.length = ds.length
  | [], vs, h => by
    unfold AtL at h
    subst h
    rfl
  | d :: ds, vs, h => by
    unfold AtL at h
    obtain ⟨v, r, rfl, _, h⟩ := h
    rw [List.length_cons, List.length_cons, AtL.length h]
theorem AtL.get {K : PySem.W.Frag} {H : Hp} : ∀ {ds : List Dt} {vs : List V} {i : Nat} {d : Dt}, AtL K H ds vs → ds[i]? = some d → ∃ v, vs[i]? = some v ∧ At K H d v
  | [], _, _, _, _, e => by simp at e
  | d :: ds, vs, 0, d', h, e => by
    unfold AtL at h
    obtain ⟨v, r, rfl, hd, _⟩ := h
    have e : d = d' := Option.some.inj e
    subst e
    exact ⟨v, rfl, hd⟩
  | d :: ds, vs, i + 1, d', h, e => by
    unfold AtL at h
    obtain ⟨v, r, rfl, _, h⟩ := h
    exact AtL.get (ds := ds) (vs := r) (i := i) h e
mutual
theorem At.keep {K : PySem.W.Frag} {H H' : Hp} (s : Same H H') : ∀ {d : Dt} {v : V}, At K H d v → At K H' d v
  | .non, v, h => by unfold At at h ⊢; exact h
  | .bl b, v, h => by unfold At at h ⊢; exact h
  | .int i, v, h => by unfold At at h ⊢; exact h
  | .str x, v, h => by unfold At at h ⊢; exact h
  | .tup xs, v, h => by
    unfold At at h ⊢
    obtain ⟨p, vs, e, hp, hl⟩ := h
    exact ⟨p, vs, e, s _ _ hp, AtL.keep s hl⟩
  | .lst xs, v, h => by
    unfold At at h ⊢
    obtain ⟨p, vs, e, hp, hl⟩ := h
    exact ⟨p, vs, e, s _ _ hp, AtL.keep s hl⟩
theorem AtL.keep {K : PySem.W.Frag} {H H' : Hp} (s : Same H H') : ∀ {ds : List Dt} {vs : List V}, AtL K H ds vs → AtL K H' ds vs
  | [], vs, h => by unfold AtL at h ⊢; exact h
  | d :: ds, vs, h => by
    unfold AtL at h ⊢
    obtain ⟨v, r, e, hd, hl⟩ := h
    exact ⟨v, r, e, At.keep s hd, AtL.keep s hl⟩
end
theorem AtL.snoc {K : PySem.W.Frag} {H : Hp} {d : Dt} {v : V} (hd : At K H d v) : ∀ {ds : List Dt} {vs : List V}, AtL K H ds vs → AtL K H (ds ++ [d]) (vs ++ [v])
  | [], vs, h => by
    unfold AtL at h
    subst h
    show AtL K H [d] [v]
    unfold AtL
    exact ⟨v, [], rfl, hd, by unfold AtL; rfl⟩
  | e :: ds, vs, h => by
    unfold AtL at h
    obtain ⟨u, r, rfl, he, h⟩ := h
    show AtL K H (e :: (ds ++ [d])) (u :: (r ++ [v]))
    unfold AtL
    exact ⟨u, _, rfl, he, AtL.snoc hd h⟩
mutual
/-- how deep a datum is, and that its rows are not too long -/
def dep : Dt → Nat
  | .tup xs => depL xs + 1
  | .lst xs => depL xs + 1
  | _ => 0
def depL : List Dt → Nat
  | [] => 0
  | d :: ds => max (dep d) (depL ds)
end
mutual
def narrow : Dt → Prop
  | .tup xs => xs.length ≤ 100000 ∧ narrowL xs
  | .lst xs => xs.length ≤ 100000 ∧ narrowL xs
  | _ => True
def narrowL : List Dt → Prop
  | [] => True
  | d :: ds => narrow d ∧ narrowL ds
end
theorem depL_get : ∀ {ds : List Dt} {i : Nat} {d : Dt}, ds[i]? = some d → dep d ≤ depL ds
  | [], _, _, e => by simp at e
  | d :: ds, 0, d', e => by
    have e : d = d' := Option.some.inj e
    subst e
    unfold depL
    exact Nat.le_max_left _ _
  | d :: ds, i + 1, d', e => by
    have h := depL_get (ds := ds) (i := i) e
    unfold depL
    exact Nat.le_trans h (Nat.le_max_right _ _)
theorem narrowL_get : ∀ {ds : List Dt} {i : Nat} {d : Dt}, narrowL ds → ds[i]? = some d → narrow d
  | [], _, _, _, e => by simp at e
  | d :: ds, 0, d', h, e => by
    have e : d = d' := Option.some.inj e
    subst e
    unfold narrowL at h
    exact h.1
  | d :: ds, i + 1, d', h, e => by
    unfold narrowL at h
    exact narrowL_get h.2 e
end OS
namespace OS
theorem deep_of {xs : List Dt} {n : Nat} (h : depL xs + 1 < n + 1) (hn : narrowL xs) : ∀ d ∈ xs, dep d < n ∧ narrow d := fun d hd => by
  obtain ⟨i, hi⟩ := List.mem_iff_getElem?.mp hd
  exact ⟨Nat.lt_of_le_of_lt (depL_get hi) (by omega), narrowL_get hn hi⟩
end OS
/-! ### the tape from which a law draws -/
namespace OS
open PySem PySem.Spec PyProof.Rows L2
theorem key_ne {a b : Str} (h : ¬ a = b) : ¬ (Sum.inr a : Key) = Sum.inr b := fun q => h (Sum.inr.inj q)
abbrev kS (x : Str) : Key := Sum.inr x
def tapeD (c : Addr) (i left seed salt : Int) : List (Key × V) :=
  [(kS "cells", .ref c), (kS "at", .int i), (kS "left", .int left), (kS "seed", .int seed), (kS "salt", .int salt)]
section
variable {c : Addr} {i left seed salt v : Int}
theorem n01 : ¬ kS "cells" = kS "at" := key_ne (by decide +kernel)
theorem n02 : ¬ kS "cells" = kS "left" := key_ne (by decide +kernel)
theorem n03 : ¬ kS "cells" = kS "seed" := key_ne (by decide +kernel)
theorem n04 : ¬ kS "cells" = kS "salt" := key_ne (by decide +kernel)
theorem n12 : ¬ kS "at" = kS "left" := key_ne (by decide +kernel)
theorem n13 : ¬ kS "at" = kS "seed" := key_ne (by decide +kernel)
theorem n14 : ¬ kS "at" = kS "salt" := key_ne (by decide +kernel)
theorem n23 : ¬ kS "left" = kS "seed" := key_ne (by decide +kernel)
theorem n24 : ¬ kS "left" = kS "salt" := key_ne (by decide +kernel)
theorem n34 : ¬ kS "seed" = kS "salt" := key_ne (by decide +kernel)
theorem n10 : ¬ kS "at" = kS "cells" := Ne.symm n01
theorem n21 : ¬ kS "left" = kS "at" := Ne.symm n12
theorem n31 : ¬ kS "seed" = kS "at" := Ne.symm n13
theorem n41 : ¬ kS "salt" = kS "at" := Ne.symm n14
theorem n32 : ¬ kS "seed" = kS "left" := Ne.symm n23
theorem n42 : ¬ kS "salt" = kS "left" := Ne.symm n24
theorem t_cells : valV (tapeD c i left seed salt) (kS "cells") = some (.ref c) := valV_pos rfl
theorem t_at : valV (tapeD c i left seed salt) (kS "at") = some (.int i) := (valV_neg n01).trans (valV_pos rfl)
theorem t_left : valV (tapeD c i left seed salt) (kS "left") = some (.int left) := (valV_neg n02).trans ((valV_neg n12).trans (valV_pos rfl))
theorem t_seed : valV (tapeD c i left seed salt) (kS "seed") = some (.int seed) := (valV_neg n03).trans ((valV_neg n13).trans ((valV_neg n23).trans (valV_pos rfl)))
theorem t_salt : valV (tapeD c i left seed salt) (kS "salt") = some (.int salt) := (valV_neg n04).trans ((valV_neg n14).trans ((valV_neg n24).trans ((valV_neg n34).trans (valV_pos rfl))))
theorem put_there {kvs : List (Key × V)} {k : Key} {v : V} {u : V} (h : valV kvs k = some u) : putK kvs k v = kvs.map (fun kv => if kv.1 = k then (kv.1, v) else kv) := by
  unfold putK
  rw [valV_any, h]
  exact if_pos rfl
theorem p_at : putK (tapeD c i left seed salt) (kS "at") (.int v) = tapeD c v left seed salt := by
  rw [put_there t_at]
  unfold tapeD
  simp only [List.map_cons, List.map_nil, if_neg n01, if_pos, if_neg n21, if_neg n31, if_neg n41]
theorem p_left : putK (tapeD c i left seed salt) (kS "left") (.int v) = tapeD c i v seed salt := by
  rw [put_there t_left]
  unfold tapeD
  simp only [List.map_cons, List.map_nil, if_neg n02, if_pos, if_neg n12, if_neg n32, if_neg n42]
theorem p_salt : putK (tapeD c i left seed salt) (kS "salt") (.int v) = tapeD c i left seed v := by
  rw [put_there t_salt]
  unfold tapeD
  simp only [List.map_cons, List.map_nil, if_neg n04, if_pos, if_neg n14, if_neg n24, if_neg n34]
end
theorem put_new {kvs : List (Key × V)} {k : Key} {v : V} (h : valV kvs k = none) : putK kvs k v = kvs ++ [(k, v)] := by
  unfold putK
  rw [valV_any, h]
  exact if_neg (by simp)
theorem merge_tape (c : Addr) (i left seed salt : Int) : mergeK [] (tapeD c i left seed salt) = tapeD c i left seed salt := by
  unfold tapeD mergeK
  simp only [List.foldl_cons, List.foldl_nil]
  rw [put_new (k := kS "cells") valV_nil, List.nil_append]
  rw [put_new (k := kS "at") ((valV_neg n01).trans valV_nil)]
  simp only [List.cons_append, List.nil_append]
  rw [put_new (k := kS "left") ((valV_neg n02).trans ((valV_neg n12).trans valV_nil))]
  simp only [List.cons_append, List.nil_append]
  rw [put_new (k := kS "seed") ((valV_neg n03).trans ((valV_neg n13).trans ((valV_neg n23).trans valV_nil)))]
  simp only [List.cons_append, List.nil_append]
  rw [put_new (k := kS "salt") ((valV_neg n04).trans ((valV_neg n14).trans ((valV_neg n24).trans ((valV_neg n34).trans valV_nil))))]
  rfl
/-- d is a tape: what it holds is not told, but that it is in order -/
structure TapeIs (H : Hp) (d c : Addr) (ns : List Int) (i : Nat) (left seed salt : Int) : Prop where
  hd : H d = some (.dK (tapeD c i left seed salt))
  hc : H c = some (.lst (ns.map V.int))
  hi : i ≤ ns.length
  hn : ∀ n ∈ ns, 0 ≤ n
  hl : 0 ≤ left
  hs : 0 ≤ seed ∧ seed < 2 ^ 62
  ht : 0 ≤ salt
section
variable {H : Hp} {d c : Addr} {ns : List Int} {i : Nat} {left seed salt : Int}
theorem TapeIs.gcells (t : TapeIs H d c ns i left seed salt) : DGet H d (.str "cells") (some (.ref c)) := t_cells (i := i) (left := left) (seed := seed) (salt := salt) ▸ DGet.k (k := kS "cells") t.hd
theorem TapeIs.gat (t : TapeIs H d c ns i left seed salt) : DGet H d (.str "at") (some (.int i)) := t_at (c := c) (left := left) (seed := seed) (salt := salt) ▸ DGet.k (k := kS "at") t.hd
theorem TapeIs.gleft (t : TapeIs H d c ns i left seed salt) : DGet H d (.str "left") (some (.int left)) := t_left (c := c) (i := i) (seed := seed) (salt := salt) ▸ DGet.k (k := kS "left") t.hd
theorem TapeIs.gseed (t : TapeIs H d c ns i left seed salt) : DGet H d (.str "seed") (some (.int seed)) := t_seed (c := c) (i := i) (left := left) (salt := salt) ▸ DGet.k (k := kS "seed") t.hd
theorem TapeIs.gsalt (t : TapeIs H d c ns i left seed salt) : DGet H d (.str "salt") (some (.int salt)) := t_salt (c := c) (i := i) (left := left) (seed := seed) ▸ DGet.k (k := kS "salt") t.hd
theorem TapeIs.pat (t : TapeIs H d c ns i left seed salt) (v : Int) : DPut H d (.str "at") (.int v) (upd H d (.dK (tapeD c v left seed salt))) := p_at (c := c) (i := i) (left := left) (seed := seed) (salt := salt) (v := v) ▸ DPut.k (k := kS "at") t.hd (by show 5 < sizeLine; decide)
theorem TapeIs.pleft (t : TapeIs H d c ns i left seed salt) (v : Int) : DPut H d (.str "left") (.int v) (upd H d (.dK (tapeD c i v seed salt))) := p_left (c := c) (i := i) (left := left) (seed := seed) (salt := salt) (v := v) ▸ DPut.k (k := kS "left") t.hd (by show 5 < sizeLine; decide)
theorem TapeIs.psalt (t : TapeIs H d c ns i left seed salt) (v : Int) : DPut H d (.str "salt") (.int v) (upd H d (.dK (tapeD c i left seed v))) := p_salt (c := c) (i := i) (left := left) (seed := seed) (salt := salt) (v := v) ▸ DPut.k (k := kS "salt") t.hd (by show 5 < sizeLine; decide)
theorem TapeIs.cd (t : TapeIs H d c ns i left seed salt) : c ≠ d := ne_of t.hc t.hd (by intro z; cases z)
theorem TapeIs.set (t : TapeIs H d c ns i left seed salt) {j : Nat} {l s : Int} (hj : j ≤ ns.length) (hl : 0 ≤ l) (hs : 0 ≤ s) : TapeIs (upd H d (.dK (tapeD c j l seed s))) d c ns j l seed s :=
  ⟨upd_same, by rw [upd_ne t.cd]; exact t.hc, hj, t.hn, hl, t.hs, hs⟩
end
def Tape (H : Hp) (d c : Addr) : Prop := ∃ ns i left seed salt, TapeIs H d c ns i left seed salt
/-- all but what stands at d is as it was -/
def Off (d : Addr) (H H' : Hp) : Prop := ∀ b, b ≠ d → H' b = H b
theorem Off.refl {d : Addr} {H : Hp} : Off d H H := fun _ _ => rfl
theorem Off.trans {d : Addr} {H H1 H2 : Hp} (a : Off d H H1) (b : Off d H1 H2) : Off d H H2 := fun x hx => (b x hx).trans (a x hx)
theorem off_upd {d : Addr} {H : Hp} {o : HO} : Off d H (upd H d o) := fun b hb => upd_ne hb
/-- all that stood, d apart, stands as it was -/
def Kept (d : Addr) (H H' : Hp) : Prop := ∀ b o, b ≠ d → H b = some o → H' b = some o
theorem Kept.refl {d : Addr} {H : Hp} : Kept d H H := fun _ _ _ h => h
theorem Kept.trans {d : Addr} {H H1 H2 : Hp} (a : Kept d H H1) (b : Kept d H1 H2) : Kept d H H2 := fun x o hx h => b x o hx (a x o hx h)
theorem Kept.of {d : Addr} {H H' : Hp} (s : Same H H') : Kept d H H' := fun b o _ h => s b o h
theorem Off.kept {d : Addr} {H H' : Hp} (s : Off d H H') : Kept d H H' := fun b o hb h => (s b hb).trans h
theorem Tape.at' {H H' : Hp} {d c : Addr} (h : Tape H d c) (e1 : H' d = H d) (e2 : H' c = H c) : Tape H' d c := by
  obtain ⟨ns, i, l, se, sa, h⟩ := h
  exact ⟨ns, i, l, se, sa, e1.trans h.hd, e2.trans h.hc, h.hi, h.hn, h.hl, h.hs, h.ht⟩
theorem Tape.keep {H H' : Hp} {d c : Addr} (s : Same H H') (h : Tape H d c) : Tape H' d c := by
  obtain ⟨ns, i, l, se, sa, h⟩ := h
  exact ⟨ns, i, l, se, sa, s _ _ h.hd, s _ _ h.hc, h.hi, h.hn, h.hl, h.hs, h.ht⟩
/-- a fresh address is not the tape's -/
theorem Tape.ne {H : Hp} {d c p : Addr} (h : Tape H d c) (hp : H p = none) : p ≠ d ∧ p ≠ c := by
  obtain ⟨ns, i, l, se, sa, h⟩ := h
  exact ⟨(ne_of_none h.hd hp).symm, (ne_of_none h.hc hp).symm⟩
theorem Tape.put {H : Hp} {d c p : Addr} {o : HO} (h : Tape H d c) (hp : p ≠ d ∧ p ≠ c) : Tape (upd H p o) d c := h.at' (upd_ne hp.1.symm) (upd_ne hp.2.symm)
theorem Kept.upd {H H' : Hp} {d p : Addr} {o : HO} (k : Kept d H H') (hp : H p = none) : Kept d H (upd H' p o) := fun b u hb e => by
  rw [upd_ne (ne_of_none e hp)]
  exact k b u hb e
def spTape (K : PySem.W.Frag) : Sp := fun vs H Q _ => ∃ (a : Addr) (ns : List Int), vs = [.ref a] ∧ SqL K H a (ns.map V.int) ∧ ns.length ≤ 63 ∧ ∀ d c H', Same H H' → H d = none → H c = none → Tape H' d c → Q (.ref d) H'
def spTake : Sp := fun vs H Q _ => ∃ (d c : Addr) (m : Int), vs = [.ref d, .int m] ∧ Tape H d c ∧ 0 < m ∧ m < 1000000 ∧ ∀ r H', 0 ≤ r → r < m → Tape H' d c → Off d H H' → Q (.int r) H'
end OS

/-! text.find(sign, i) -/
namespace OS
open PySem PySem.Spec L2 PySem.StrLaws Builtin Builtin.Str
theorem occ_full (s sub : Str) (hi : Nat) : ∀ (l : List Nat) (st : Array Nat × Nat), st.fst.size = 1 → (forIn l st (occBody s sub hi 1)).run.fst = st.fst
  | [], st, h => rfl
  | a :: l, st, h => by
    rw [List.forIn_cons]
    unfold occBody
    rw [if_neg (fun q => by have := q.1.1.1; omega)]
    exact occ_full s sub hi l (st.fst, st.snd) h
theorem occ_first (s sub : Str) (hi : Nat) : ∀ (l : List Nat) (free : Nat), (∀ i ∈ l, free ≤ i) →
    (forIn l ((#[] : Array Nat), free) (occBody s sub hi 1)).run.fst.toList = (l.find? fun i => decide (i + sub.length ≤ hi ∧ subAt s sub i = true)).toList
  | [], free, _ => rfl
  | a :: l, free, hf => by
    rw [List.forIn_cons]
    unfold occBody
    have ha : free ≤ a := hf a (List.mem_cons_self ..)
    by_cases hc : a + sub.length ≤ hi ∧ subAt s sub a = true
    · have c1 : (((#[] : Array Nat), free).fst.size < 1 ∧ ((#[] : Array Nat), free).snd ≤ a) ∧ a + sub.length ≤ hi := ⟨⟨by simp, ha⟩, hc.1⟩
      rw [if_pos ⟨c1, hc.2⟩, List.find?_cons, decide_eq_true hc]
      have e := occ_full s sub hi l (((#[] : Array Nat), free).fst.push a, a + sub.length) (by simp)
      have e2 := congrArg Array.toList e
      exact e2
    · have c2 : ¬ (((((#[] : Array Nat), free).fst.size < 1 ∧ ((#[] : Array Nat), free).snd ≤ a) ∧ a + sub.length ≤ hi) ∧ subAt s sub a = true) := fun h => hc ⟨h.1.2, h.2⟩
      rw [if_neg c2, List.find?_cons, decide_eq_false hc]
      exact occ_first s sub hi l free (fun i hi' => hf i (List.mem_cons_of_mem _ hi'))
theorem find_range (cs : List Nat) (c : Nat) : ∀ (n lo : Nat), lo + n = cs.length + 1 →
    (List.range' lo n).find? (fun i => decide (cs[i]? = some c)) = if run (fun x => x != c) cs lo < cs.length then some (run (fun x => x != c) cs lo) else none
  | 0, lo, h => by
    rw [run_end (by omega), if_neg (by omega)]
    rfl
  | n + 1, lo, h => by
    rw [List.range'_succ, List.find?_cons]
    by_cases e : cs[lo]? = some c
    · rw [decide_eq_true e, run_stop e (by simp), if_pos (List.getElem?_eq_some_iff.mp e).1]
    · rw [decide_eq_false e]
      show (List.range' (lo + 1) n).find? _ = _
      by_cases hl : lo < cs.length
      · have g := List.getElem?_eq_getElem hl
        rw [find_range cs c n (lo + 1) (by omega), ← run_go g (by
          rw [bne_iff_ne]
          intro z
          rw [z] at g
          exact e g)]
      · rw [find_range cs c n (lo + 1) (by omega), run_end (i := lo) (by omega), run_end (i := lo + 1) (by omega), if_neg (by omega), if_neg (by omega)]
theorem find3_one (z : Str) (c i : Nat) (hi : i ≤ z.length) : Txt.find3 z ⟨#[c]⟩ (i : Int) = if run (fun x => x != c) z.cps.toList i < z.length then ((run (fun x => x != c) z.cps.toList i : Nat) : Int) else -1 := by
  have hf : fromIndex z.length (i : Int) = i := by
    unfold fromIndex
    rw [if_neg (by omega)]
    omega
  have hz := len_cps z
  unfold Txt.find3
  rw [hf, occ_eq, occ_first z ⟨#[c]⟩ z.length _ i (fun j hj => (List.mem_range'_1.mp hj).1)]
  have e1 : (fun j => decide (j + (⟨#[c]⟩ : Str).length ≤ z.length ∧ subAt z ⟨#[c]⟩ j = true)) = (fun j => decide (z.cps.toList[j]? = some c)) := by
    funext j
    exact decide_eq_decide.mpr (subAt_one z c j)
  rw [e1, find_range _ _ _ _ (by omega)]
  rw [← hz]
  by_cases h : run (fun x => x != c) z.cps.toList i < z.length
  · rw [if_pos h, if_pos h]
    rfl
  · rw [if_neg h, if_neg h]
    rfl
end OS

set_option maxHeartbeats 4000000
/-! An own exception's __init__ that says super().__init__(text) and then self.f = x: its promise. -/
namespace OS
open PySem PySem.Spec PyProof.Rows L2
/-- the promise: the exception at a gets a dict with its one field -/
def spExcI (C : Addr) (fld : Str) : Sp := fun vs H Q _ => ∃ (a : Addr) (v : V), vs = [.ref a, v] ∧ H a = some (exo a C none) ∧ ∀ dx, H dx = none → dx ≠ a → Q .non (upd (upd H dx (exd dx [(fld, v)])) a (exo a C (some dx)))
/-- the body -/
abbrev supBody (msg fld arg : Str) (p0 p1 p2 p3 p4 p5 q0 q1 q2 q3 : Pos) (j : Nat) : List Stmt :=
  [.Expr (.Call (.Attribute (.Call (.Name "super" p0) [] [] p1) "__init__" p2) [.Constant (.str msg) j p3] [] p4) p5,
   .Assign [.Attribute (.Name "self" q0) fld q1] (.Name arg q2) q3]
section
variable {P : Program} {w : World} {K : PySem.W.Frag} {mg : Str → Option Value} {base : Heap}
theorem fn_super {msg fld arg qual : Str} {p0 p1 p2 p3 p4 p5 q0 q1 q2 q3 : Pos} {j : Nat} {f C cc cda : Addr} {params : Arguments} {scope : Scope} {dV kV doc pm ct oc ccl cl : Value} {an od cdd cld : Option Addr} {osl ccs csl : Array (Option Value)}
    {vs2 : Array Value} {file : Str} {tf : Tok} {ar : Arg} {cd : ClassData}
    (lk : K.lookup f = some ⟨oc, od, .func (PySem.W.ksFn "__init__" qual params (supBody msg fld arg p0 p1 p2 p3 p4 p5 q0 q1 q2 q3 j) scope dV kV doc pm an (.ref cda) ct cc), osl⟩)
    (hcd : PySem.W.codeIn K (.ref cda) qual = true) (T : OexC K C)
    (kS : scope.names.lookup ("self" : Str) = some .local) (kA : scope.names.lookup arg = some .local) (kCl : scope.names.lookup ("__class__" : Str) = some .free) (kSu : scope.names.lookup ("super" : Str) = some .globalImplicit) (hnocell : ∀ x ∈ scope.names, x.2 ≠ .cell) (hk : scope.kind = .function) (hco : scope.isCoroutine = false) (hgen : scope.isGenerator = false)
    (hparS : (params.posonlyargs ++ params.args).head? = some ar) (harS : ar.arg = "self") (hself : ¬ arg = "self") (hdb : ¬ arg = "__debug__")
    (hcode : K.lookup cda = some ⟨ccl, cdd, .fields vs2, ccs⟩) (hvs : vs2[2]? = some (.str file tf)) (hfile : ((P.main.file : Str) == file) = true) (htop : (P.main.scope.names.lookup ("super" : Str)).isSome = false)
    (hcell : K.lookup cc = some ⟨cl, cld, .cell (some (.ref C)), csl⟩) (hD : PySem.W.clsIn K C = some cd) (hsub : PySem.W.mroIn K C (.ref C) = some true) (hsuper : mg "super" = none)
    (hany : PySem.W.nsIn K cStatics "thirdparty.any" = some none) (hinit : PySem.W.ks_superIn K C C "__init__" = some (some (.builtin "ValueError.__init__"))) (hVE : PySem.W.subIn K (.ref C) (.type "ValueError") = some true)
    (hno : PySem.W.findIn K (.ref C) fld = some none)
    (he : ∀ env : Env, ∃ pl : Sem Bool, eval (.Call (.Attribute (.Call (.Name "super" p0) [] [] p1) "__init__" p2) [.Constant (.str msg) j p3] [] p4) env = (do
      let ov ← attributeBase (.Call (.Name "super" p0) [] [] p1) "__init__" env (eval (.Call (.Name "super" p0) [] [] p1) env)
      standAt p2.atName
      let (f, first) ← holding [ov] (getMethod ov "__init__" pl)
      callWith p4 f first (backTo p4 (starEach [.Constant (.str msg) j p3] env)) [])) :
    FnOk P w K mg base CX0 1 f (PySem.W.ksFn "__init__" qual params (supBody msg fld arg p0 p1 p2 p3 p4 p5 q0 q1 q2 q3 j) scope dV kV doc pm an (.ref cda) ct cc) ["self", arg] (spExcI C fld) := by
  obtain ⟨kind, names, gen, co, more⟩ := scope
  dsimp only at kS kA kCl kSu hnocell hk hco hgen
  subst hk hco hgen
  refine ⟨fun vs H Q E h => ?_, fun A outer s H args us vs Q E hr e0 hb r hsp => ?_⟩
  · obtain ⟨a, v, rfl, _⟩ := h
    rfl
  · obtain ⟨a, v, rfl, hHa, k⟩ := hsp
    cases r with
    | cons r1 r => cases r with
      | cons r2 r => cases r with
        | nil =>
    rename_i ua uv
    cases (show ua = Value.ref a from r1)
    have KX : K.In s.heap := e0.mod.kin.keeps fun b o e => (e0.bs b o e).1
    have lim : s.heap.NoLimit := e0.mod.nolimit.keeps fun b o e => (e0.bs b o e).1
    refine PySem.ks_codeAny_call_defAt (binds := [("self", .ref a), (arg, uv)]) hr.depth (KX _ _ lk) rfl lim (PySem.W.codeRec_of KX hcd) rfl hb hnocell ?_ (fun h1 hn1 k1 => ?_) rfl rfl rfl
    · intro x hx
      simp only [List.mem_cons, List.not_mem_nil, or_false] at hx
      rcases hx with rfl | rfl
      · exact kS
      · exact kA
    · have keep1 : ∀ b o, s.heap.get? b = some o → h1.get? b = some o := k1
      have K1 : K.In h1 := KX.keeps k1
      obtain ⟨ox, hox, hoxe⟩ : ∃ ox : Obj, s.heap.get? a = some ox ∧ ∃ t1 : Addr, ox = { cls := .ref C, dict := none, data := .fields #[.ref t1, .none, .none, .none, .bool false, .none] } := by
        obtain ⟨t1, ho⟩ := exo_at e0.hok hHa
        exact ⟨_, ho, t1, rfl⟩
      obtain ⟨t1, rfl⟩ := hoxe
      have haC : a ≠ C := by
        rintro rfl
        obtain ⟨nm, q, N, bs, bm, sn, sub, ab, col, dd, k0, k1', k2, k3, k5, hC, _⟩ := T.cls
        have := KX _ _ hC
        rw [hox] at this
        cases this
      obtain ⟨oD, hD1, hD2⟩ : ∃ oD, h1.get? C = some oD ∧ oD.data = .cls cd := by
        unfold PySem.W.clsIn at hD
        split at hD
        · rename_i c d cd' sl ho
          cases hD
          exact ⟨_, K1 _ _ ho, rfl⟩
        · cases hD
      obtain ⟨pl, hpl⟩ := he (callEnv _ s.heap.objs.size f)
      refine PySem.ks_wpAt_execs_cons (PySem.ks_wpAt_Expr_any (PySem.ks_wpAt_MethodCall ?_ hpl))
      refine PySem.ks_wpAt_super_base kSu kCl rfl rfl (k1 _ _ (KX _ _ lk)) rfl hparS rfl (k1 _ _ (KX _ _ hcode)) rfl hvs hfile htop ?_
      obtain ⟨mb, hb1, hb2⟩ := e0.mod.blt
      have kb : ∀ b o, base.get? b = some o → h1.get? b = some o := fun b o e => k1 _ _ (e0.bs b o e).1
      refine PySem.W.ks_loadName_global rfl kSu (Calls.loadGlobal_builtin (e0.mod.glob.keeps kb) hsuper (hb1.keeps kb) ((hb2 _ (by decide)).trans (show bootBuiltins "super" = some (.type "super") by decide +kernel)) ⟨rfl, ?_⟩)
      refine wpAny_loadName_free rfl kCl rfl ⟨_, K1 _ _ hcell, rfl⟩ ?_
      refine wpAny_loadName_local rfl (by rw [harS]; exact kS) hn1 (v := .ref a) ?_ ?_
      · rw [harS]
        have n1 : (("self" : Str) == arg) = false := beq_eq_false_iff_ne.mpr fun q => hself q.symm
        show List.lookup ("self" : Str) [(arg, uv), ("self", Value.ref a)] = some (.ref a)
        rw [List.lookup_cons, n1, List.lookup_cons, beq_self_eq_true]
      · refine PySem.ks_wpAny_isType_cls hD1 hD2 ⟨rfl, ?_⟩
        refine PySem.ks_wpAny_call_super hD1 hD2 (k1 _ _ hox) rfl (fun c e => by cases e) (PySem.W.looks_mroIn K1 hsub) (fun h2 e2 k2 => ?_)
        have K2 : K.In h2 := K1.keeps k2
        have hox2 := k2 _ _ (k1 _ _ hox)
        have I2 : PySem.W.InstAt h2 a { cls := .ref C, dict := none, data := .fields #[.ref t1, .none, .none, .none, .bool false, .none] } C none := ⟨hox2, rfl, rfl, trivial⟩
        unfold PySem.W.ks_superIn at hinit
        rw [hD] at hinit
        refine PySem.W.kxs_getMethod PySem.W.kxs_ValueError e2 (PySem.W.looks_opaque K2 hany) (l₀ := cd.mro) (fun A Q E s k q => wpAny_bind ((PySem.W.looks_clsIn K2 hD) A _ E s k (wpAny_pure q))) rfl K2 hinit (I2.type.andThen (PySem.W.looks_subIn K2 hVE)) haC rfl ?_
        have lt1 : a < s.heap.objs.size := Heap.lt_size hox
        obtain ⟨oL, es, ep, hL, rL⟩ := id hn1
        have sz1 : s.heap.objs.size ≤ h2.objs.size := Nat.le_of_lt (Heap.lt_size (k2 _ _ hL))
        have k3 : ∀ b o, h2.get? b = some o → (h2.push (PySem.W.kxs_mw "ValueError.__init__" a)).get? b = some o := fun b o e => Heap.get?_push_of_some _ e
        have hu3 : (h2.push (PySem.W.kxs_mw "ValueError.__init__" a)).get? h2.objs.size = some (PySem.W.kxs_mw "ValueError.__init__" a) := Heap.get?_push_at rfl rfl
        have hox3 := k3 _ _ hox2
        generalize h2.push (PySem.W.kxs_mw "ValueError.__init__" a) = h3 at k3 hu3 hox3 ⊢
        refine PySem.W.kxs_callWith (i := "ValueError.__init__") (x := a) rfl (PySem.Calls.evalArgs_plain (Calls.spliced_cons ?_))
        refine Calls.Constant_str (pos := p3) (k := j) (Calls.spliced_nil ⟨hu3, ?_⟩)
        obtain ⟨nm, q, N, bs, bm, sn, sub, ab, col, dd, kk0, kk1, kk2, kk3, kk5, hC, hbm⟩ := T.cls
        have FB := PySem.F.excBase_ValueError
        have hC3 := k3 _ _ (k2 _ _ (K1 _ _ hC))
        refine wpAny_call (codeAny_of_tree ?_); show wpAny _ _ (callAny (.ref h2.objs.size) ⟨_, []⟩) _ _ _; simp only [callAny]
        refine wpAny_bind (wpAny_load hu3 ?_); simp only [PySem.W.kxs_mw, show (Value.type "method-wrapper" == Value.type "method" || Value.type "method-wrapper" == Value.type "builtin_function_or_method" || Value.type "method-wrapper" == Value.type "method-wrapper") = true by decide, if_true]
        refine PySem.W.KFB.if_so (by decide) (wpAny_bind (PySem.W.check_bound_init FB.toExcCallFacts hC3 hox3 rfl ?_)); refine wpAny_bind (wpAny_pure (wpAny_pure ?_))
        refine ⟨plainId_quiet FB.init.plain _, codeAny_builtin FB.initEntry (PySem.W.exc_init_tree (cls := .ref C) (t0 := t1) (dv := none) (c2 := .none) (c3 := .none) (b4 := .bool false) hox3 (by show 1 ≤ sizeLine; decide) fun h4 k4 e4 t4 => ?_)⟩
        have k04 : ∀ b o, b ≠ a → s.heap.get? b = some o → h4.get? b = some o := fun b o hb e => k4 _ _ hb (k3 _ _ (k2 _ _ (k1 _ _ e)))
        have K4 : K.In h4 := fun b o e => by
          have hb := e0.mod.kin _ _ e
          obtain ⟨e1, e2⟩ := e0.bs _ _ hb
          exact k04 _ _ (fun z => by rw [z, hHa] at e2; cases e2) e1
        have hn4 : h4.Ns s.heap.objs.size (fun x => List.lookup x [((Str.ofString "self"), Value.ref a), (arg, uv)].reverse) := ⟨oL, es, ep, k4 _ _ (Nat.ne_of_gt lt1) (k3 _ _ (k2 _ _ hL)), rL⟩
        refine PySem.ks_wpAt_execs_cons (PySem.ks_wpAt_Assign_Attr (PySem.wpAt_of_wpAny (PySem.ldc rfl kA hn4 (v := uv) ?_ (PySem.ldc rfl kS hn4 (v := .ref a) ?_ ?_ ?_) ?_)))
        · show List.lookup arg [(arg, uv), (("self" : Str), Value.ref a)] = some uv
          rw [List.lookup_cons, beq_self_eq_true]
        · have n1 : (("self" : Str) == arg) = false := beq_eq_false_iff_ne.mpr fun q => hself q.symm
          show List.lookup ("self" : Str) [(arg, uv), ("self", Value.ref a)] = some (.ref a)
          rw [List.lookup_cons, n1, List.lookup_cons, beq_self_eq_true]
        · have hcl : PySem.W.clsIn K C = some { name := nm, bases := bs, mro := .ref C :: bm, ns := N, qualname := q, hasDict := true, slotNames := sn, subclasses := sub, abstract := ab, collection := col, hasDel := false } := by
            unfold PySem.W.clsIn
            rw [hC] <;> rfl
          refine PySem.W.set_plain K4 (ox := { cls := .ref C, dict := none, data := .fields #[.ref h3.objs.size, .none, .none, .none, .bool false, .none] }) (od := none) ⟨e4, rfl, rfl, trivial⟩ T.sa ?_
          refine PySem.HandSPX.exc_osa K4 e4 hcl (show PySem.HandSPX.refsVE (.ref C :: bm) = true from hbm) rfl hno (fun h5 tk5 dx k5 ldx dne e5 n5 => ?_)
          have k05 : ∀ b o, b ≠ a → s.heap.get? b = some o → h5.get? b = some o := fun b o hb e => k5 _ _ hb (k04 _ _ hb e)
          have szd : s.heap.objs.size ≤ dx := by
            have : s.heap.objs.size < h4.objs.size := Heap.lt_size (k4 _ _ (Nat.ne_of_gt lt1) (k3 _ _ (k2 _ _ hL)))
            exact Nat.le_of_lt (Nat.lt_of_lt_of_le this ldx)
          have Hdx : H dx = none := e0.hok.fresh szd
          have nb : ∀ {b : Addr} {o : Obj}, s.heap.get? b = some o → b ≠ dx := fun {b o} e => Nat.ne_of_lt (Nat.lt_of_lt_of_le (Heap.lt_size e) szd)
          have nh : ∀ {b : Addr}, H b = none → b ≠ a := fun {b} e z => by rw [z, hHa] at e; cases e
          have U : Un (frs outer) [] H (upd (upd H dx (exd dx [(fld, v)])) a (exo a C (some dx))) s.heap h5 := by
            constructor
            · exact fun b o e n _ _ => k05 b o (nh n) e
            · exact fun b o e n _ _ => ⟨o.slots, k05 b o (nh n) e⟩
            · intro b o e n _
              rw [upd_ne (nh n), upd_ne (nb e)]
              exact n
            · intro b o e _
              by_cases hb : b = a
              · subst hb
                exact ⟨_, e5⟩
              · exact ⟨o, k05 b o hb e⟩
            · intro b xs e
              rw [upd_ne (at_ne hHa e exo_tup), upd_ne (ne_of_none e Hdx)]
              exact e
            · intro b o u e
              rw [upd_ne (at_ne hHa e exo_frz), upd_ne (ne_of_none e Hdx)]
              exact e
            · intro b ps e
              refine ⟨#[], ?_⟩
              rw [upd_ne (at_ne hHa e exo_tbl), upd_ne (ne_of_none e Hdx), e]
              simp
          refine PySem.wpAt_of_wpAny (wpAny_pure ?_)
          refine ⟨.non, _, rfl, e0.bare, U, fun b o e => ?_, rfl, k dx Hdx dne⟩
          by_cases hb : b = a
          · subst hb
            rw [upd_same] at e
            cases e
            exact exo_ok e5
          · rw [upd_ne hb] at e
            by_cases hd : b = dx
            · subst hd
              rw [upd_same] at e
              cases e
              exact exd_ok n5 (relO_put (fs := []) r2 fun g => True.intro)
            · rw [upd_ne hd] at e
              refine (e0.hok b o e).stay (fun c u hc z => k05 c u ?_ z) (fun c hc => ?_) (fun c xs hc => ?_)
              · rcases hc with hc | hc
                · rw [hc]
                  exact hb
                · exact at_ne hHa hc exo_own
              · rw [upd_ne (at_ne hHa hc exo_own), upd_ne (ne_of_none hc Hdx)]
                exact hc
              · rw [upd_ne (at_ne hHa hc exo_tup), upd_ne (ne_of_none hc Hdx)]
                exact hc
        · decide +kernel
        · exact beq_eq_false_iff_ne.mpr hdb
end
end OS

/-! Scores as trees, and a reader of tokens in plain Lean: with fuel, failing at a token. -/
namespace OS
open PySem
inductive Val where
  | num (n : Int) | name (x : Str) | op (s : Str) (a b : Val)
def Val.dt : Val → Dt
  | .num n => .tup [.str "number", .int n]
  | .name x => .tup [.str "name", .str x]
  | .op s a b => .tup [.str s, a.dt, b.dt]
inductive Stm where
  | msg (a b l : Str) (v : Val) (x : Str) | set (e x : Str) (v : Val) | ask (e x : Str) | call (p : Str) (es : List Str) | ite (e : Str) (v : Val) (yes no : List Stm) | whl (e : Str) (v : Val) (b : List Stm)
def namesDt (es : List Str) : Dt := .tup (es.map .str)
mutual
def Stm.dt : Stm → Dt
  | .msg a b l v x => .tup [.str "message", .str a, .str b, .str l, v.dt, .str x]
  | .set e x v => .tup [.str "set", .str e, .str x, v.dt]
  | .ask e x => .tup [.str "ask", .str e, .str x]
  | .call p es => .tup [.str "call", .str p, namesDt es]
  | .ite e v yes no => .tup [.str "if", .str e, v.dt, .tup (blkDts yes), .tup (blkDts no)]
  | .whl e v b => .tup [.str "while", .str e, v.dt, .tup (blkDts b)]
def blkDts : List Stm → List Dt
  | [] => []
  | s :: r => s.dt :: blkDts r
end
def blkDt (b : List Stm) : Dt := .tup (blkDts b)
theorem blkDts_snoc (b : List Stm) (s : Stm) : blkDts (b ++ [s]) = blkDts b ++ [s.dt] := by
  induction b with
  | nil => simp [blkDts]
  | cons x r ih => simp [blkDts, ih]
theorem blkDts_len (b : List Stm) : (blkDts b).length = b.length := by
  induction b with
  | nil => simp [blkDts]
  | cons x r ih => simp [blkDts, ih]
structure Prt where
  name : Str
  params : List Str
  body : List Stm
def Prt.dt (p : Prt) : Dt := .tup [.str p.name, namesDt p.params, blkDt p.body]
structure Tree where
  ends : List Str
  parts : List Prt
  body : List Stm
def Tree.dt (t : Tree) : Dt := .tup [namesDt t.ends, .tup (t.parts.map Prt.dt), blkDt t.body]

/-! ### the reader -/
inductive Res (α : Type) where
  | ok (v : α) (i : Nat) | bad (i : Nat) | out
abbrev Tok2 := Str × Str
/-- the word, the sort of the next token; nothing behind the last -/
def nw (ts : List Tok2) (i : Nat) : Str := match ts[i]? with | some t => t.2 | none => ""
def ns (ts : List Tok2) (i : Nat) : Str := match ts[i]? with | some t => t.1 | none => ""
abbrev Rd (α : Type) := List Tok2 → Nat → Res α
def rpure {α : Type} (v : α) : Rd α := fun _ i => .ok v i
def rbind {α β : Type} (m : Rd α) (f : α → Rd β) : Rd β := fun ts i => match m ts i with | .ok v j => f v ts j | .bad j => .bad j | .out => .out
def rfail {α : Type} : Rd α := fun _ i => .bad i
def rout {α : Type} : Rd α := fun _ _ => .out
def rtake (w : Str) : Rd Unit := fun ts i => if nw ts i = w then .ok () (i + 1) else .bad i
def rsort (s : Str) : Rd Str := fun ts i => if ns ts i = s then .ok (nw ts i) (i + 1) else .bad i
def rpeek : Rd Str := fun ts i => .ok (nw ts i) i
def rpeekS : Rd Str := fun ts i => .ok (ns ts i) i
def rname : Rd Str := rsort "name"
def rnamesL : Nat → List Str → Rd (List Str)
  | 0, _ => rout
  | f + 1, acc => rbind rpeek fun w => if w = "," then rbind (rtake ",") fun _ => rbind rname fun n => rnamesL f (acc ++ [n]) else rpure acc
def rnames (f : Nat) : Rd (List Str) := rbind rname fun n => rnamesL f [n]
def rnamesB (f : Nat) : Rd (List Str) := rbind (rtake "(") fun _ => rbind (rnames f) fun l => rbind (rtake ")") fun _ => rpure l
def numVal (x : Str) : Int := x.cps.toList.foldl (fun (n : Int) (c : Nat) => (n * 10 + ((c : Int) - 48)).fmod 4294967296) 0
mutual
def rvalue : Nat → Nat → Rd Val
  | 0, _ => rout
  | f + 1, b => rbind (rsum f b) fun l => rbind rpeek fun w => if w = "<" ∨ w = "==" then rbind (rsort "sign") fun s => rbind (rsum f b) fun r => rpure (.op s l r) else rpure l
def rsum : Nat → Nat → Rd Val
  | 0, _ => rout
  | f + 1, b => rbind (rprod f b) fun l => rsumL f b l
def rsumL : Nat → Nat → Val → Rd Val
  | 0, _, _ => rout
  | f + 1, b, l => rbind rpeek fun w => if w = "+" ∨ w = "-" then rbind (rsort "sign") fun s => rbind (rprod f b) fun r => rsumL f b (.op s l r) else rpure l
def rprod : Nat → Nat → Rd Val
  | 0, _ => rout
  | f + 1, b => rbind (rsimple f b) fun l => rprodL f b l
def rprodL : Nat → Nat → Val → Rd Val
  | 0, _, _ => rout
  | f + 1, b, l => rbind rpeek fun w => if w = "*" then rbind (rtake "*") fun _ => rbind (rsimple f b) fun r => rprodL f b (.op "*" l r) else rpure l
def rsimple : Nat → Nat → Rd Val
  | 0, _ => rout
  | f + 1, b => rbind rpeekS fun s => if s = "number" then rbind (rsort "number") fun d => rpure (.num (numVal d)) else if s = "name" then rbind rname fun n => rpure (.name n)
      else if 12 ≤ b then rfail else rbind (rtake "(") fun _ => rbind (rvalue f (b + 1)) fun v => rbind (rtake ")") fun _ => rpure v
end
def rmsg (f : Nat) (a : Str) : Rd Stm := rbind (rtake "->") fun _ => rbind rname fun b => rbind (rtake ":") fun _ => rbind rname fun l => rbind (rtake "(") fun _ => rbind (rvalue f 0) fun v =>
  rbind (rtake ")") fun _ => rbind (rtake "as") fun _ => rbind rname fun x => rpure (.msg a b l v x)
def rdec (f : Nat) (w : Str) : Rd (Str × Val) := rbind (rtake w) fun _ => rbind rname fun e => rbind (rtake ":") fun _ => rbind (rvalue f 0) fun v => rpure (e, v)
mutual
def rblock : Nat → Nat → Rd (List Stm)
  | 0, _ => rout
  | f + 1, b => if 12 ≤ b then rfail else rbind (rtake "{") fun _ => rblockL f b []
def rblockL : Nat → Nat → List Stm → Rd (List Stm)
  | 0, _, _ => rout
  | f + 1, b, acc => rbind rpeek fun w => if w = "}" then rbind (rtake "}") fun _ => rpure acc else rbind (rstmt f (b + 1)) fun s => rblockL f b (acc ++ [s])
def rstmt : Nat → Nat → Rd Stm
  | 0, _ => rout
  | f + 1, b => rbind rpeek fun w => if w = "if" then rif f b else if w = "while" then rwhile f b
      else if w = "call" then rbind (rtake "call") fun _ => rbind rname fun n => rbind (rnamesB f) fun es => rpure (.call n es)
      else rbind rname fun e => rbind rpeek fun w2 => if w2 = "->" then rmsg f e
        else if w2 = "sets" then rbind (rtake "sets") fun _ => rbind rname fun x => rbind (rtake "=") fun _ => rbind (rvalue f 0) fun v => rpure (.set e x v)
        else rbind (rtake "asks") fun _ => rbind rname fun x => rpure (.ask e x)
def rif : Nat → Nat → Rd Stm
  | 0, _ => rout
  | f + 1, b => rbind (rdec f "if") fun ev => rbind (rblock f b) fun yes => rbind (rtake "else") fun _ => rbind (rblock f b) fun no => rpure (.ite ev.1 ev.2 yes no)
def rwhile : Nat → Nat → Rd Stm
  | 0, _ => rout
  | f + 1, b => rbind (rdec f "while") fun ev => rbind (rblock f b) fun bl => rpure (.whl ev.1 ev.2 bl)
end
def rpart (f : Nat) : Rd Prt := rbind (rtake "part") fun _ => rbind rname fun n => rbind (rnamesB f) fun ps => rbind (rblock f 0) fun b => rpure ⟨n, ps, b⟩
def rparts : Nat → List Prt → Rd (List Prt)
  | 0, _ => rout
  | f + 1, acc => rbind rpeek fun w => if w = "part" then rbind (rpart f) fun p => rparts f (acc ++ [p]) else rpure acc
def rlast {α : Type} (v : α) : Rd α := fun ts i => if i < ts.length then .bad i else .ok v i
def rscore (f : Nat) : Rd Tree := rbind (rtake "ends") fun _ => rbind (rnames f) fun es => rbind (rparts f []) fun ps => rbind (rtake "play") fun _ => rbind (rblock f 0) fun b => rlast ⟨es, ps, b⟩

/-- with enough fuel -/
def Evn {α : Type} (m : Nat → Rd α) (ts : List Tok2) (i : Nat) (r : Res α) : Prop := ∃ f0, ∀ f, f0 ≤ f → m f ts i = r
theorem Evn.det {α : Type} {m : Nat → Rd α} {ts : List Tok2} {i : Nat} {r r' : Res α} (h : Evn m ts i r) (h' : Evn m ts i r') : r = r' := by
  obtain ⟨a, h⟩ := h
  obtain ⟨b, h'⟩ := h'
  exact (h (max a b) (Nat.le_max_left _ _)).symm.trans (h' (max a b) (Nat.le_max_right _ _))
theorem Evn.const {α : Type} {m : Rd α} {ts : List Tok2} {i : Nat} {r : Res α} (h : m ts i = r) : Evn (fun _ => m) ts i r := ⟨0, fun _ _ => h⟩
theorem Evn.bind {α β : Type} {m : Nat → Rd α} {k : Nat → α → Rd β} {ts : List Tok2} {i j : Nat} {v : α} {r : Res β} (h : Evn m ts i (.ok v j)) (hk : Evn (fun f => k f v) ts j r) : Evn (fun f => rbind (m f) (k f)) ts i r := by
  obtain ⟨a, h⟩ := h
  obtain ⟨b, hk⟩ := hk
  refine ⟨max a b, fun f hf => ?_⟩
  show (match m f ts i with | .ok v j => k f v ts j | .bad j => .bad j | .out => .out) = r
  rw [h f (by omega)]
  exact hk f (by omega)
theorem Evn.bad {α β : Type} {m : Nat → Rd α} {k : Nat → α → Rd β} {ts : List Tok2} {i j : Nat} (h : Evn m ts i (.bad j)) : Evn (fun f => rbind (m f) (k f)) ts i (.bad j) := by
  obtain ⟨a, h⟩ := h
  refine ⟨a, fun f hf => ?_⟩
  show (match m f ts i with | .ok v j => k f v ts j | .bad j => .bad j | .out => .out) = _
  rw [h f hf]
theorem Evn.step {α : Type} {m k : Nat → Rd α} {ts : List Tok2} {i : Nat} {r : Res α} (h : Evn k ts i r) (e : ∀ f, m (f + 1) ts i = k f ts i) : Evn m ts i r := by
  obtain ⟨a, h⟩ := h
  refine ⟨a + 1, fun f hf => ?_⟩
  cases f with
  | zero => omega
  | succ f => rw [e]; exact h f (by omega)
theorem Evn.eq {α : Type} {m k : Nat → Rd α} {ts : List Tok2} {i : Nat} {r : Res α} (h : Evn k ts i r) (e : ∀ f, m f ts i = k f ts i) : Evn m ts i r := by
  obtain ⟨a, h⟩ := h
  exact ⟨a, fun f hf => (e f).trans (h f hf)⟩
theorem Evn.take {ts : List Tok2} {i : Nat} {w : Str} (h : nw ts i = w) : Evn (fun _ => rtake w) ts i (.ok () (i + 1)) := .const (by unfold rtake; rw [if_pos h])
theorem Evn.takeN {ts : List Tok2} {i : Nat} {w : Str} (h : ¬ nw ts i = w) : Evn (fun _ => rtake w) ts i (.bad i) := .const (by unfold rtake; rw [if_neg h])
theorem Evn.sort {ts : List Tok2} {i : Nat} {w : Str} (h : ns ts i = w) : Evn (fun _ => rsort w) ts i (.ok (nw ts i) (i + 1)) := .const (by unfold rsort; rw [if_pos h])
theorem Evn.sortN {ts : List Tok2} {i : Nat} {w : Str} (h : ¬ ns ts i = w) : Evn (fun _ => rsort w) ts i (.bad i) := .const (by unfold rsort; rw [if_neg h])
theorem Evn.pure {α : Type} {ts : List Tok2} {i : Nat} (v : α) : Evn (fun _ => rpure v) ts i (.ok v i) := .const rfl
theorem Evn.peek {ts : List Tok2} {i : Nat} {α : Type} {k : Nat → Str → Rd α} {r : Res α} (h : Evn (fun f => k f (nw ts i)) ts i r) : Evn (fun f => rbind rpeek (k f)) ts i r := h
theorem Evn.peekS {ts : List Tok2} {i : Nat} {α : Type} {k : Nat → Str → Rd α} {r : Res α} (h : Evn (fun f => k f (ns ts i)) ts i r) : Evn (fun f => rbind rpeekS (k f)) ts i r := h
theorem Evn.ifT {α : Type} {c : Prop} [Decidable c] {m k : Nat → Rd α} {ts : List Tok2} {i : Nat} {r : Res α} (hc : c) (h : Evn m ts i r) : Evn (fun f => if c then m f else k f) ts i r := by
  obtain ⟨a, h⟩ := h
  exact ⟨a, fun f hf => (congrFun (congrFun (if_pos hc) ts) i).trans (h f hf)⟩
theorem Evn.ifF {α : Type} {c : Prop} [Decidable c] {m k : Nat → Rd α} {ts : List Tok2} {i : Nat} {r : Res α} (hc : ¬ c) (h : Evn k ts i r) : Evn (fun f => if c then m f else k f) ts i r := by
  obtain ⟨a, h⟩ := h
  exact ⟨a, fun f hf => (congrFun (congrFun (if_neg hc) ts) i).trans (h f hf)⟩
end OS

/-! The reader looks at no token behind the one at which it stands. -/
namespace OS
open PySem
/-- m looks no further than where it ends -/
def Lc {α : Type} (m : Rd α) : Prop := ∀ (ts ts' : List Tok2) (i : Nat),
  (∀ v j, m ts i = .ok v j → i ≤ j ∧ ((∀ k, k ≤ j → ts[k]? = ts'[k]?) → m ts' i = .ok v j)) ∧ ∀ j, m ts i = .bad j → i ≤ j ∧ ((∀ k, k ≤ j → ts[k]? = ts'[k]?) → m ts' i = .bad j)
theorem nw_same {ts ts' : List Tok2} {i : Nat} (h : ts[i]? = ts'[i]?) : nw ts i = nw ts' i := by unfold nw; rw [h]
theorem ns_same {ts ts' : List Tok2} {i : Nat} (h : ts[i]? = ts'[i]?) : ns ts i = ns ts' i := by unfold ns; rw [h]
theorem Lc.pure {α : Type} (v : α) : Lc (rpure v) := fun ts ts' i => by
  refine ⟨fun w j h => ?_, fun j h => ?_⟩
  · unfold rpure at h
    injection h with h1 h2
    subst h1; subst h2
    exact ⟨Nat.le_refl _, fun _ => rfl⟩
  · unfold rpure at h
    cases h
theorem Lc.fail {α : Type} : Lc (rfail (α := α)) := fun ts ts' i => by
  refine ⟨fun w j h => ?_, fun j h => ?_⟩
  · unfold rfail at h
    cases h
  · unfold rfail at h
    injection h with h
    subst h
    exact ⟨Nat.le_refl _, fun _ => rfl⟩
theorem Lc.out {α : Type} : Lc (rout (α := α)) := fun ts ts' i => by
  refine ⟨fun w j h => ?_, fun j h => ?_⟩
  · unfold rout at h
    cases h
  · unfold rout at h
    cases h
theorem Lc.take (w : Str) : Lc (rtake w) := fun ts ts' i => by
  unfold rtake
  refine ⟨fun v j h => ?_, fun j h => ?_⟩
  · split at h
    · rename_i c
      injection h with h1 h2
      subst h2
      exact ⟨Nat.le_succ _, fun q => by rw [← nw_same (q i (Nat.le_succ _)), if_pos c]⟩
    · cases h
  · split at h
    · cases h
    · rename_i c
      injection h with h
      subst h
      exact ⟨Nat.le_refl _, fun q => by rw [← nw_same (q i (Nat.le_refl _)), if_neg c]⟩
theorem Lc.sort (w : Str) : Lc (rsort w) := fun ts ts' i => by
  unfold rsort
  refine ⟨fun v j h => ?_, fun j h => ?_⟩
  · split at h
    · rename_i c
      injection h with h1 h2
      subst h1; subst h2
      exact ⟨Nat.le_succ _, fun q => by rw [← ns_same (q i (Nat.le_succ _)), if_pos c, nw_same (q i (Nat.le_succ _))]⟩
    · cases h
  · split at h
    · cases h
    · rename_i c
      injection h with h
      subst h
      exact ⟨Nat.le_refl _, fun q => by rw [← ns_same (q i (Nat.le_refl _)), if_neg c]⟩
theorem Lc.peek : Lc rpeek := fun ts ts' i => by
  refine ⟨fun v j h => ?_, fun j h => ?_⟩
  · unfold rpeek at h ⊢
    injection h with h1 h2
    subst h1; subst h2
    exact ⟨Nat.le_refl _, fun q => by rw [nw_same (q i (Nat.le_refl _))]⟩
  · unfold rpeek at h
    cases h
theorem Lc.peekS : Lc rpeekS := fun ts ts' i => by
  refine ⟨fun v j h => ?_, fun j h => ?_⟩
  · unfold rpeekS at h ⊢
    injection h with h1 h2
    subst h1; subst h2
    exact ⟨Nat.le_refl _, fun q => by rw [ns_same (q i (Nat.le_refl _))]⟩
  · unfold rpeekS at h
    cases h
theorem Lc.bind {α β : Type} {m : Rd α} {k : α → Rd β} (hm : Lc m) (hk : ∀ v, Lc (k v)) : Lc (rbind m k) := fun ts ts' i => by
  unfold rbind
  cases e : m ts i with
  | ok v j =>
    obtain ⟨h1, h2⟩ := (hm ts ts' i).1 v j e
    refine ⟨fun w l h => ?_, fun l h => ?_⟩
    · have h : k v ts j = .ok w l := h
      obtain ⟨h3, h4⟩ := (hk v ts ts' j).1 w l h
      exact ⟨by omega, fun q => by rw [h2 fun x hx => q x (by omega)]; exact h4 q⟩
    · have h : k v ts j = .bad l := h
      obtain ⟨h3, h4⟩ := (hk v ts ts' j).2 l h
      exact ⟨by omega, fun q => by rw [h2 fun x hx => q x (by omega)]; exact h4 q⟩
  | bad j =>
    obtain ⟨h1, h2⟩ := (hm ts ts' i).2 j e
    refine ⟨fun w l h => (by cases h), fun l h => ?_⟩
    have h : (Res.bad j : Res β) = .bad l := h
    injection h with h
    subst h
    exact ⟨h1, fun q => by rw [h2 q]⟩
  | out => exact ⟨fun w l h => (by cases h), fun l h => (by cases h)⟩
theorem Lc.ite {α : Type} {c : Prop} [Decidable c] {m k : Rd α} (hm : Lc m) (hk : Lc k) : Lc (if c then m else k) := by
  split
  · exact hm
  · exact hk
theorem Lc.last {α : Type} (v : α) : Lc (rlast v) := fun ts ts' i => by
  unfold rlast
  have sm : ts[i]? = ts'[i]? → (i < ts.length ↔ i < ts'.length) := fun h => by
    constructor
    · intro q
      refine Nat.lt_of_not_le fun z => ?_
      rw [List.getElem?_eq_none z, List.getElem?_eq_getElem q] at h
      cases h
    · intro q
      refine Nat.lt_of_not_le fun z => ?_
      rw [List.getElem?_eq_none z, List.getElem?_eq_getElem q] at h
      cases h
  refine ⟨fun w j h => ?_, fun j h => ?_⟩
  · split at h
    · cases h
    · rename_i c
      injection h with h1 h2
      subst h1; subst h2
      exact ⟨Nat.le_refl _, fun q => by rw [if_neg fun z => c ((sm (q i (Nat.le_refl _))).mpr z)]⟩
  · split at h
    · rename_i c
      injection h with h
      subst h
      exact ⟨Nat.le_refl _, fun q => by rw [if_pos ((sm (q i (Nat.le_refl _))).mp c)]⟩
    · cases h
theorem lc_namesL : ∀ (f : Nat) (acc : List Str), Lc (rnamesL f acc)
  | 0, _ => .out
  | f + 1, acc => .bind .peek fun _ => .ite (.bind (.take _) fun _ => .bind (.sort _) fun _ => lc_namesL f _) (.pure _)
theorem lc_names (f : Nat) : Lc (rnames f) := .bind (.sort _) fun _ => lc_namesL f _
theorem lc_namesB (f : Nat) : Lc (rnamesB f) := .bind (.take _) fun _ => .bind (lc_names f) fun _ => .bind (.take _) fun _ => .pure _
structure LcV (f : Nat) : Prop where
  value : ∀ b, Lc (rvalue f b)
  sum : ∀ b, Lc (rsum f b)
  sumL : ∀ b l, Lc (rsumL f b l)
  prod : ∀ b, Lc (rprod f b)
  prodL : ∀ b l, Lc (rprodL f b l)
  simple : ∀ b, Lc (rsimple f b)
theorem lc_values : ∀ f, LcV f
  | 0 => ⟨fun b => by rw [rvalue]; exact .out, fun b => by rw [rsum]; exact .out, fun b l => by rw [rsumL]; exact .out, fun b => by rw [rprod]; exact .out, fun b l => by rw [rprodL]; exact .out, fun b => by rw [rsimple]; exact .out⟩
  | f + 1 => by
    have h := lc_values f
    refine ⟨fun b => ?_, fun b => ?_, fun b l => ?_, fun b => ?_, fun b l => ?_, fun b => ?_⟩
    · rw [rvalue]
      exact .bind (h.sum b) fun _ => .bind .peek fun _ => .ite (.bind (.sort _) fun _ => .bind (h.sum b) fun _ => .pure _) (.pure _)
    · rw [rsum]
      exact .bind (h.prod b) fun _ => h.sumL b _
    · rw [rsumL]
      exact .bind .peek fun _ => .ite (.bind (.sort _) fun _ => .bind (h.prod b) fun _ => h.sumL b _) (.pure _)
    · rw [rprod]
      exact .bind (h.simple b) fun _ => h.prodL b _
    · rw [rprodL]
      exact .bind .peek fun _ => .ite (.bind (.take _) fun _ => .bind (h.simple b) fun _ => h.prodL b _) (.pure _)
    · rw [rsimple]
      exact .bind .peekS fun _ => .ite (.bind (.sort _) fun _ => .pure _) (.ite (.bind (.sort _) fun _ => .pure _) (.ite .fail (.bind (.take _) fun _ => .bind (h.value _) fun _ => .bind (.take _) fun _ => .pure _)))
theorem lc_msg (f : Nat) (a : Str) : Lc (rmsg f a) := .bind (.take _) fun _ => .bind (.sort _) fun _ => .bind (.take _) fun _ => .bind (.sort _) fun _ => .bind (.take _) fun _ => .bind ((lc_values f).value 0) fun _ =>
  .bind (.take _) fun _ => .bind (.take _) fun _ => .bind (.sort _) fun _ => .pure _
theorem lc_dec (f : Nat) (w : Str) : Lc (rdec f w) := .bind (.take _) fun _ => .bind (.sort _) fun _ => .bind (.take _) fun _ => .bind ((lc_values f).value 0) fun _ => .pure _
structure LcB (f : Nat) : Prop where
  block : ∀ b, Lc (rblock f b)
  blockL : ∀ b l, Lc (rblockL f b l)
  stmt : ∀ b, Lc (rstmt f b)
  rif : ∀ b, Lc (rif f b)
  rwhile : ∀ b, Lc (rwhile f b)
theorem lc_blocks : ∀ f, LcB f
  | 0 => ⟨fun b => by rw [rblock]; exact .out, fun b l => by rw [rblockL]; exact .out, fun b => by rw [rstmt]; exact .out, fun b => by rw [rif]; exact .out, fun b => by rw [rwhile]; exact .out⟩
  | f + 1 => by
    have h := lc_blocks f
    refine ⟨fun b => ?_, fun b l => ?_, fun b => ?_, fun b => ?_, fun b => ?_⟩
    · rw [rblock]
      exact .ite .fail (.bind (.take _) fun _ => h.blockL b _)
    · rw [rblockL]
      exact .bind .peek fun _ => .ite (.bind (.take _) fun _ => .pure _) (.bind (h.stmt _) fun _ => h.blockL b _)
    · rw [rstmt]
      exact .bind .peek fun _ => .ite (h.rif b) (.ite (h.rwhile b) (.ite (.bind (.take _) fun _ => .bind (.sort _) fun _ => .bind (lc_namesB f) fun _ => .pure _)
        (.bind (.sort _) fun _ => .bind .peek fun _ => .ite (lc_msg f _) (.ite (.bind (.take _) fun _ => .bind (.sort _) fun _ => .bind (.take _) fun _ => .bind ((lc_values f).value 0) fun _ => .pure _)
          (.bind (.take _) fun _ => .bind (.sort _) fun _ => .pure _)))))
    · rw [rif]
      exact .bind (lc_dec f _) fun _ => .bind (h.block b) fun _ => .bind (.take _) fun _ => .bind (h.block b) fun _ => .pure _
    · rw [rwhile]
      exact .bind (lc_dec f _) fun _ => .bind (h.block b) fun _ => .pure _
theorem lc_part (f : Nat) : Lc (rpart f) := .bind (.take _) fun _ => .bind (.sort _) fun _ => .bind (lc_namesB f) fun _ => .bind ((lc_blocks f).block 0) fun _ => .pure _
theorem lc_parts : ∀ (f : Nat) (acc : List Prt), Lc (rparts f acc)
  | 0, _ => .out
  | f + 1, acc => .bind .peek fun _ => .ite (.bind (lc_part f) fun _ => lc_parts f _) (.pure _)
theorem lc_score (f : Nat) : Lc (rscore f) := .bind (.take _) fun _ => .bind (lc_names f) fun _ => .bind (lc_parts f _) fun _ => .bind (.take _) fun _ => .bind ((lc_blocks f).block 0) fun _ => .last _
/-- what fails at j fails there whatever stands behind j -/
theorem score_local {ts ts' : List Tok2} {j : Nat} (h : Evn rscore ts 0 (.bad j)) (q : ∀ k, k ≤ j → ts[k]? = ts'[k]?) : Evn rscore ts' 0 (.bad j) := by
  obtain ⟨f0, h⟩ := h
  exact ⟨f0, fun f hf => ((lc_score f ts ts' 0).2 j (h f hf)).2 q⟩
end OS

/-! What is printed is read again: words of a printed value, read by the fuel parser. -/
namespace OS
open PySem
/-- ws stands in ts from i on -/
def Sub (ts : List Tok2) (i : Nat) (ws : List Tok2) : Prop := ∀ k t, ws[k]? = some t → ts[i + k]? = some t
theorem Sub.left {ts : List Tok2} {i : Nat} {a b : List Tok2} (h : Sub ts i (a ++ b)) : Sub ts i a := fun k t e => h k t (by
  rw [List.getElem?_append_left (List.getElem?_eq_some_iff.mp e).1]
  exact e)
theorem Sub.right {ts : List Tok2} {i : Nat} {a b : List Tok2} (h : Sub ts i (a ++ b)) : Sub ts (i + a.length) b := fun k t e => by
  have := h (a.length + k) t (by rw [List.getElem?_append_right (Nat.le_add_right _ _), Nat.add_sub_cancel_left]; exact e)
  rw [Nat.add_assoc]
  exact this
theorem Sub.head {ts : List Tok2} {i : Nat} {t : Tok2} {r : List Tok2} (h : Sub ts i (t :: r)) : nw ts i = t.2 ∧ ns ts i = t.1 := by
  have e := h 0 t rfl
  rw [Nat.add_zero] at e
  unfold nw ns
  rw [e]
  exact ⟨rfl, rfl⟩
theorem Sub.tail {ts : List Tok2} {i : Nat} {t : Tok2} {r : List Tok2} (h : Sub ts i (t :: r)) : Sub ts (i + 1) r := fun k u e => by
  have := h (k + 1) u e
  rw [show i + 1 + k = i + (k + 1) by omega]
  exact this
def sg (s : Str) : Tok2 := ("sign", s)
def kw (s : Str) : Tok2 := ("word", s)
def nmT (s : Str) : Tok2 := ("name", s)
/-- the words of a value that may stand where least binds; d: how deep its brackets stand -/
inductive PV : Nat → Nat → Val → List Tok2 → Prop
  | brk {l d : Nat} {x : Val} {ws : List Tok2} : PV 0 d x ws → PV l (d + 1) x (sg "(" :: (ws ++ [sg ")"]))
  | num {l d : Nat} {n : Int} {z : Str} : numVal z = n → PV l d (.num n) [("number", z)]
  | name {l d : Nat} {x : Str} : PV l d (.name x) [nmT x]
  | cmp {d : Nat} {s : Str} {a b : Val} {wa wb : List Tok2} : s = "<" ∨ s = "==" → PV 1 d a wa → PV 1 d b wb → PV 0 d (.op s a b) (wa ++ sg s :: wb)
  | sum {l d : Nat} {s : Str} {a b : Val} {wa wb : List Tok2} : l ≤ 1 → s = "+" ∨ s = "-" → PV 1 d a wa → PV 2 d b wb → PV l d (.op s a b) (wa ++ sg s :: wb)
  | prod {l d : Nat} {a b : Val} {wa wb : List Tok2} : l ≤ 2 → PV 2 d a wa → PV 3 d b wb → PV l d (.op "*" a b) (wa ++ sg "*" :: wb)
/-- no sign that goes on with a value -/
def Free (w : Str) : Prop := ¬ (w = "<" ∨ w = "==") ∧ ¬ (w = "+" ∨ w = "-") ∧ ¬ w = "*"
section
variable {ts : List Tok2} {i e b : Nat} {x : Val}
theorem go_prod (h : Evn (fun f => rsimple f b) ts i (.ok x e)) {r : Res Val} (q : Evn (fun f => rprodL f b x) ts e r) : Evn (fun f => rprod f b) ts i r :=
  .step (k := fun f => rbind (rsimple f b) fun l => rprodL f b l) (.bind h q) fun f => by rw [rprod]
theorem prod_end (h : ¬ nw ts e = "*") : Evn (fun f => rprodL f b x) ts e (.ok x e) :=
  .step (k := fun f => rbind rpeek fun w => if w = "*" then rbind (rtake "*") fun _ => rbind (rsimple f b) fun r => rprodL f b (.op "*" x r) else rpure x) (.peek (.ifF h (.pure x))) fun f => by rw [rprodL]
theorem prod_more {y : Val} {e' : Nat} (h : nw ts e = "*") (hy : Evn (fun f => rsimple f b) ts (e + 1) (.ok y e')) {r : Res Val} (q : Evn (fun f => rprodL f b (.op "*" x y)) ts e' r) : Evn (fun f => rprodL f b x) ts e r :=
  .step (k := fun f => rbind rpeek fun w => if w = "*" then rbind (rtake "*") fun _ => rbind (rsimple f b) fun r => rprodL f b (.op "*" x r) else rpure x) (.peek (.ifT h (.bind (.take h) (.bind hy q)))) fun f => by rw [rprodL]
theorem go_sum (h : Evn (fun f => rprod f b) ts i (.ok x e)) {r : Res Val} (q : Evn (fun f => rsumL f b x) ts e r) : Evn (fun f => rsum f b) ts i r :=
  .step (k := fun f => rbind (rprod f b) fun l => rsumL f b l) (.bind h q) fun f => by rw [rsum]
theorem sum_end (h : ¬ (nw ts e = "+" ∨ nw ts e = "-")) : Evn (fun f => rsumL f b x) ts e (.ok x e) :=
  .step (k := fun f => rbind rpeek fun w => if w = "+" ∨ w = "-" then rbind (rsort "sign") fun s => rbind (rprod f b) fun r => rsumL f b (.op s x r) else rpure x) (.peek (.ifF h (.pure x))) fun f => by rw [rsumL]
theorem sum_more {y : Val} {e' : Nat} {s : Str} (hs : s = "+" ∨ s = "-") (h : nw ts e = s) (h2 : ns ts e = "sign") (hy : Evn (fun f => rprod f b) ts (e + 1) (.ok y e')) {r : Res Val} (q : Evn (fun f => rsumL f b (.op s x y)) ts e' r) : Evn (fun f => rsumL f b x) ts e r := by
  refine .step (k := fun f => rbind rpeek fun w => if w = "+" ∨ w = "-" then rbind (rsort "sign") fun s => rbind (rprod f b) fun r => rsumL f b (.op s x r) else rpure x) (.peek (.ifT (by rw [h]; exact hs) ?_)) fun f => by rw [rsumL]
  have hq := Evn.sort h2
  rw [h] at hq
  exact .bind hq (.bind hy q)
theorem go_value (h : Evn (fun f => rsum f b) ts i (.ok x e)) (hn : ¬ (nw ts e = "<" ∨ nw ts e = "==")) : Evn (fun f => rvalue f b) ts i (.ok x e) :=
  .step (k := fun f => rbind (rsum f b) fun l => rbind rpeek fun w => if w = "<" ∨ w = "==" then rbind (rsort "sign") fun s => rbind (rsum f b) fun r => rpure (.op s l r) else rpure l) (.bind h (.peek (.ifF hn (.pure x)))) fun f => by rw [rvalue]
theorem go_cmp {y : Val} {e' : Nat} {s : Str} (hs : s = "<" ∨ s = "==") (hx : Evn (fun f => rsum f b) ts i (.ok x e)) (h : nw ts e = s) (h2 : ns ts e = "sign") (hy : Evn (fun f => rsum f b) ts (e + 1) (.ok y e')) : Evn (fun f => rvalue f b) ts i (.ok (.op s x y) e') := by
  refine .step (k := fun f => rbind (rsum f b) fun l => rbind rpeek fun w => if w = "<" ∨ w = "==" then rbind (rsort "sign") fun s => rbind (rsum f b) fun r => rpure (.op s l r) else rpure l) (.bind hx (.peek (.ifT (by rw [h]; exact hs) ?_))) fun f => by rw [rvalue]
  have hq := Evn.sort h2
  rw [h] at hq
  exact .bind hq (.bind hy (.pure _))
end
/-- what holds of a printed value -/
structure Rdb (l : Nat) (x : Val) (ts : List Tok2) (i e b : Nat) : Prop where
  simple : l = 3 → Evn (fun f => rsimple f b) ts i (.ok x e)
  prod : 2 ≤ l → ∀ r, Evn (fun f => rprodL f b x) ts e r → Evn (fun f => rprod f b) ts i r
  sum : 1 ≤ l → ¬ nw ts e = "*" → ∀ r, Evn (fun f => rsumL f b x) ts e r → Evn (fun f => rsum f b) ts i r
  value : Free (nw ts e) → Evn (fun f => rvalue f b) ts i (.ok x e)
theorem Rdb.ofSum {l : Nat} {x : Val} {ts : List Tok2} {i e b : Nat} (h1 : l ≤ 1) (h : ¬ nw ts e = "*" → ∀ r, Evn (fun f => rsumL f b x) ts e r → Evn (fun f => rsum f b) ts i r) : Rdb l x ts i e b :=
  ⟨fun q => by omega, fun q => by omega, fun _ => h, fun q => go_value (h q.2.2 _ (sum_end q.2.1)) q.1⟩
theorem Rdb.ofProd {l : Nat} {x : Val} {ts : List Tok2} {i e b : Nat} (h1 : l ≤ 2) (h : ∀ r, Evn (fun f => rprodL f b x) ts e r → Evn (fun f => rprod f b) ts i r) : Rdb l x ts i e b :=
  ⟨fun q => by omega, fun _ => h, fun _ q r hr => go_sum (h _ (prod_end q)) hr, fun q => go_value (go_sum (h _ (prod_end q.2.2)) (sum_end q.2.1)) q.1⟩
theorem Rdb.ofSimple {l : Nat} {x : Val} {ts : List Tok2} {i e b : Nat} (h : Evn (fun f => rsimple f b) ts i (.ok x e)) : Rdb l x ts i e b :=
  ⟨fun _ => h, fun _ r hr => go_prod h hr, fun _ q r hr => go_sum (go_prod h (prod_end q)) hr, fun q => go_value (go_sum (go_prod h (prod_end q.2.2)) (sum_end q.2.1)) q.1⟩
abbrev simpleB (b : Nat) : Nat → Rd Val := fun f => rbind rpeekS fun s => if s = "number" then rbind (rsort "number") fun d => rpure (.num (numVal d)) else if s = "name" then rbind rname fun n => rpure (.name n)
      else if 12 ≤ b then rfail else rbind (rtake "(") fun _ => rbind (rvalue f (b + 1)) fun v => rbind (rtake ")") fun _ => rpure v
theorem go_simple {ts : List Tok2} {i b : Nat} {r : Res Val} (h : Evn (simpleB b) ts i r) : Evn (fun f => rsimple f b) ts i r := .step h fun f => by rw [rsimple]
/-- a printed value is read as this value -/
theorem pv_read {l d : Nat} {x : Val} {ws : List Tok2} (h : PV l d x ws) : ∀ (ts : List Tok2) (i b : Nat), Sub ts i ws → b + d ≤ 12 → Rdb l x ts i (i + ws.length) b := by
  induction h with
  | @brk l d x ws h ih =>
    intro ts i b hs hb
    obtain ⟨w0, s0⟩ := hs.head
    have h1 := hs.tail
    have h2 := ih ts (i + 1) (b + 1) h1.left (by omega)
    obtain ⟨w3, _⟩ := h1.right.head
    have el : i + (sg "(" :: (ws ++ [sg ")"])).length = i + 1 + ws.length + 1 := by simp; omega
    rw [el]
    refine .ofSimple (go_simple (.peekS ?_))
    rw [s0]
    refine .ifF (by decide +kernel) (.ifF (by decide +kernel) (.ifF (by omega) (.bind (.take w0) (.bind (h2.value ?_) (.bind (.take w3) (.pure _))))))
    rw [w3]
    exact ⟨by decide +kernel, by decide +kernel, by decide +kernel⟩
  | @num l d n z hz =>
    intro ts i b hs hb
    obtain ⟨w0, s0⟩ := hs.head
    refine .ofSimple (go_simple (.peekS ?_))
    rw [s0]
    have hq := Evn.sort s0
    rw [w0] at hq
    rw [← hz]
    exact .ifT rfl (.bind hq (.pure _))
  | @name l d x =>
    intro ts i b hs hb
    obtain ⟨w0, s0⟩ := hs.head
    refine .ofSimple (go_simple (.peekS ?_))
    rw [s0]
    have hq := Evn.sort s0
    rw [w0] at hq
    exact .ifF (show ¬ ("name" : Str) = "number" by decide +kernel) (.ifT rfl (.bind hq (.pure _)))
  | @cmp d s a b wa wb hs _ _ iha ihb =>
    intro ts i bb hsub hb
    have ha := iha ts i bb hsub.left hb
    obtain ⟨w0, s0⟩ := hsub.right.head
    have hbb := ihb ts (i + wa.length + 1) bb hsub.right.tail hb
    have el : i + (wa ++ sg s :: wb).length = i + wa.length + 1 + wb.length := by simp; omega
    rw [el]
    have n1 : ¬ nw ts (i + wa.length) = "*" := by rw [w0]; rcases hs with rfl | rfl <;> decide +kernel
    have n2 : ¬ (nw ts (i + wa.length) = "+" ∨ nw ts (i + wa.length) = "-") := by rw [w0]; rcases hs with rfl | rfl <;> decide +kernel
    refine ⟨fun q => by omega, fun q => by omega, fun q => by omega, fun q => ?_⟩
    exact go_cmp hs (ha.sum (Nat.le_refl _) n1 _ (sum_end n2)) w0 s0 (hbb.sum (Nat.le_refl _) q.2.2 _ (sum_end q.2.1))
  | @sum l d s a b wa wb hl hs _ _ iha ihb =>
    intro ts i bb hsub hb
    have ha := iha ts i bb hsub.left hb
    obtain ⟨w0, s0⟩ := hsub.right.head
    have hbb := ihb ts (i + wa.length + 1) bb hsub.right.tail hb
    have el : i + (wa ++ sg s :: wb).length = i + wa.length + 1 + wb.length := by simp; omega
    rw [el]
    have n1 : ¬ nw ts (i + wa.length) = "*" := by rw [w0]; rcases hs with rfl | rfl <;> decide +kernel
    exact .ofSum hl fun q r hr => ha.sum (Nat.le_refl _) n1 _ (sum_more hs w0 s0 (hbb.prod (Nat.le_refl _) _ (prod_end q)) hr)
  | @prod l d a b wa wb hl _ _ iha ihb =>
    intro ts i bb hsub hb
    have ha := iha ts i bb hsub.left hb
    obtain ⟨w0, s0⟩ := hsub.right.head
    have hbb := ihb ts (i + wa.length + 1) bb hsub.right.tail hb
    have el : i + (wa ++ sg "*" :: wb).length = i + wa.length + 1 + wb.length := by simp; omega
    rw [el]
    exact .ofProd hl fun r hr => ha.prod (Nat.le_refl _) _ (prod_more w0 (hbb.simple rfl) hr)
/-! ### names, statements, scores -/
def commasL : List Str → List Tok2
  | [] => []
  | y :: r => sg "," :: nmT y :: commasL r
def commas : List Str → List Tok2
  | [] => []
  | x :: r => nmT x :: commasL r
theorem namesL_read : ∀ (es acc : List Str) (ts : List Tok2) (i : Nat), Sub ts i (commasL es) → ¬ nw ts (i + (commasL es).length) = "," → Evn (fun f => rnamesL f acc) ts i (.ok (acc ++ es) (i + (commasL es).length))
  | [], acc, ts, i, _, hn => by
    have hn : ¬ nw ts i = "," := hn
    rw [List.append_nil]
    exact .step (k := fun f => rbind rpeek fun w => if w = "," then rbind (rtake ",") fun _ => rbind rname fun n => rnamesL f (acc ++ [n]) else rpure acc) (.peek (.ifF hn (.pure acc))) fun f => rfl
  | y :: r, acc, ts, i, hs, hn => by
    obtain ⟨w0, _⟩ := hs.head
    obtain ⟨w1, s1⟩ := hs.tail.head
    have el : i + (commasL (y :: r)).length = i + 1 + 1 + (commasL r).length := by show i + ((commasL r).length + 1 + 1) = _; omega
    rw [el] at hn ⊢
    have ih := namesL_read r (acc ++ [y]) ts (i + 1 + 1) hs.tail.tail hn
    rw [List.append_assoc] at ih
    have hq := Evn.sort s1
    rw [w1] at hq
    exact .step (k := fun f => rbind rpeek fun w => if w = "," then rbind (rtake ",") fun _ => rbind rname fun n => rnamesL f (acc ++ [n]) else rpure acc) (.peek (.ifT w0 (.bind (.take w0) (.bind hq ih)))) fun f => rfl
theorem names_read {es : List Str} {ts : List Tok2} {i : Nat} (h0 : es ≠ []) (hs : Sub ts i (commas es)) (hn : ¬ nw ts (i + (commas es).length) = ",") : Evn rnames ts i (.ok es (i + (commas es).length)) := by
  cases es with
  | nil => exact absurd rfl h0
  | cons x r =>
    obtain ⟨w0, s0⟩ := hs.head
    have el : i + (commas (x :: r)).length = i + 1 + (commasL r).length := by show i + ((commasL r).length + 1) = _; omega
    rw [el] at hn ⊢
    have hq := Evn.sort s0
    rw [w0] at hq
    exact .bind hq (namesL_read r [x] ts (i + 1) hs.tail hn)
theorem namesB_read {es : List Str} {ts : List Tok2} {i : Nat} (h0 : es ≠ []) (hs : Sub ts i (sg "(" :: (commas es ++ [sg ")"]))) : Evn rnamesB ts i (.ok es (i + 1 + (commas es).length + 1)) := by
  obtain ⟨w0, _⟩ := hs.head
  have h1 := hs.tail
  obtain ⟨w2, _⟩ := h1.right.head
  exact .bind (.take w0) (.bind (names_read h0 h1.left (by rw [w2]; decide +kernel)) (.bind (.take w2) (.pure _)))
/-- a name that may begin a statement -/
def NmF (x : Str) : Prop := Free x ∧ ¬ x = "}" ∧ ¬ x = "if" ∧ ¬ x = "while" ∧ ¬ x = "call"
mutual
def PS : Stm → List Tok2 → Prop
  | .msg a b l v x, ws => NmF a ∧ ∃ wv, PV 0 12 v wv ∧ ws = nmT a :: sg "->" :: nmT b :: sg ":" :: nmT l :: sg "(" :: (wv ++ [sg ")", kw "as", nmT x])
  | .set e x v, ws => NmF e ∧ ∃ wv, PV 0 12 v wv ∧ ws = nmT e :: kw "sets" :: nmT x :: sg "=" :: wv
  | .ask e x, ws => NmF e ∧ ws = [nmT e, kw "asks", nmT x]
  | .call p cs, ws => cs ≠ [] ∧ ws = kw "call" :: nmT p :: sg "(" :: (commas cs ++ [sg ")"])
  | .ite e v yes no, ws => ∃ wv wy wn, PV 0 12 v wv ∧ PB yes wy ∧ PB no wn ∧ ws = kw "if" :: nmT e :: sg ":" :: (wv ++ (sg "{" :: (wy ++ [sg "}"])) ++ (kw "else" :: sg "{" :: (wn ++ [sg "}"])))
  | .whl e v b, ws => ∃ wv wb, PV 0 12 v wv ∧ PB b wb ∧ ws = kw "while" :: nmT e :: sg ":" :: (wv ++ (sg "{" :: (wb ++ [sg "}"])))
def PB : List Stm → List Tok2 → Prop
  | [], ws => ws = []
  | s :: r, ws => ∃ w1 w2, PS s w1 ∧ PB r w2 ∧ ws = w1 ++ w2
end
theorem ps_head : ∀ {s : Stm} {ws : List Tok2}, PS s ws → ∃ t r, ws = t :: r ∧ Free t.2 ∧ ¬ t.2 = "}"
  | .msg a b l v x, ws, h => by
    obtain ⟨hn, wv, _, rfl⟩ : NmF a ∧ ∃ wv, PV 0 12 v wv ∧ ws = _ := h
    exact ⟨_, _, rfl, hn.1, hn.2.1⟩
  | .set e x v, ws, h => by
    obtain ⟨hn, wv, _, rfl⟩ : NmF e ∧ ∃ wv, PV 0 12 v wv ∧ ws = _ := h
    exact ⟨_, _, rfl, hn.1, hn.2.1⟩
  | .ask e x, ws, h => by
    obtain ⟨hn, rfl⟩ : NmF e ∧ ws = _ := h
    exact ⟨_, _, rfl, hn.1, hn.2.1⟩
  | .call p cs, ws, h => by
    obtain ⟨_, rfl⟩ : cs ≠ [] ∧ ws = _ := h
    exact ⟨_, _, rfl, ⟨by show ¬ (("call" : Str) = "<" ∨ ("call" : Str) = "=="); decide +kernel, by show ¬ (("call" : Str) = "+" ∨ ("call" : Str) = "-"); decide +kernel, by show ¬ ("call" : Str) = "*"; decide +kernel⟩, by show ¬ ("call" : Str) = "}"; decide +kernel⟩
  | .ite e v yes no, ws, h => by
    rw [PS] at h
    obtain ⟨wv, wy, wn, _, _, _, rfl⟩ := h
    exact ⟨_, _, rfl, ⟨by show ¬ (("if" : Str) = "<" ∨ ("if" : Str) = "=="); decide +kernel, by show ¬ (("if" : Str) = "+" ∨ ("if" : Str) = "-"); decide +kernel, by show ¬ ("if" : Str) = "*"; decide +kernel⟩, by show ¬ ("if" : Str) = "}"; decide +kernel⟩
  | .whl e v b, ws, h => by
    rw [PS] at h
    obtain ⟨wv, wb, _, _, rfl⟩ := h
    exact ⟨_, _, rfl, ⟨by show ¬ (("while" : Str) = "<" ∨ ("while" : Str) = "=="); decide +kernel, by show ¬ (("while" : Str) = "+" ∨ ("while" : Str) = "-"); decide +kernel, by show ¬ ("while" : Str) = "*"; decide +kernel⟩, by show ¬ ("while" : Str) = "}"; decide +kernel⟩
mutual
/-- how deep blocks stand in a statement -/
def Stm.lay : Stm → Nat
  | .ite _ _ yes no => max (blkLay yes) (blkLay no) + 1
  | .whl _ _ b => blkLay b + 1
  | _ => 0
def blkLay : List Stm → Nat
  | [] => 0
  | s :: r => max s.lay (blkLay r)
end
theorem free_of {w : Str} (h : w = "{" ∨ w = "}" ∨ w = ")" ∨ w = "else" ∨ w = "as" ∨ w = "part" ∨ w = "play") : Free w := by
  rcases h with rfl | rfl | rfl | rfl | rfl | rfl | rfl <;> exact ⟨by decide +kernel, by decide +kernel, by decide +kernel⟩
theorem name_read {ts : List Tok2} {i : Nat} {x : Str} {r : List Tok2} (h : Sub ts i (nmT x :: r)) : Evn (fun _ => rname) ts i (.ok x (i + 1)) := by
  obtain ⟨w0, s0⟩ := h.head
  have hq := Evn.sort s0
  rw [w0] at hq
  exact hq
theorem take_read {ts : List Tok2} {i : Nat} {t : Tok2} {r : List Tok2} (h : Sub ts i (t :: r)) : Evn (fun _ => rtake t.2) ts i (.ok () (i + 1)) := .take h.head.1
theorem value_read {ts : List Tok2} {i : Nat} {v : Val} {wv : List Tok2} (h : PV 0 12 v wv) (hs : Sub ts i wv) (hf : Free (nw ts (i + wv.length))) : Evn (fun f => rvalue f 0) ts i (.ok v (i + wv.length)) := (pv_read h ts i 0 hs (by omega)).value hf
theorem dec_read {ts : List Tok2} {i : Nat} {w e : Str} {v : Val} {wv r : List Tok2} (h : PV 0 12 v wv) (hs : Sub ts i (kw w :: nmT e :: sg ":" :: (wv ++ (sg "{" :: r)))) : Evn (fun f => rdec f w) ts i (.ok (e, v) (i + 3 + wv.length)) := by
  have h1 := hs.tail
  have h2 := h1.tail
  have h3 : Sub ts (i + 3) _ := h2.tail
  exact .bind (take_read hs) (.bind (name_read h1) (.bind (take_read h2) (.bind (value_read h h3.left (by rw [h3.right.head.1]; exact free_of (.inl rfl))) (.pure _))))
abbrev stmtB (b : Nat) : Nat → Rd Stm := fun f => rbind rpeek fun w => if w = "if" then rif f b else if w = "while" then rwhile f b
      else if w = "call" then rbind (rtake "call") fun _ => rbind rname fun n => rbind (rnamesB f) fun es => rpure (.call n es)
      else rbind rname fun e => rbind rpeek fun w2 => if w2 = "->" then rmsg f e
        else if w2 = "sets" then rbind (rtake "sets") fun _ => rbind rname fun x => rbind (rtake "=") fun _ => rbind (rvalue f 0) fun v => rpure (.set e x v)
        else rbind (rtake "asks") fun _ => rbind rname fun x => rpure (.ask e x)
theorem go_stmt {ts : List Tok2} {i b : Nat} {r : Res Stm} (h : Evn (stmtB b) ts i r) : Evn (fun f => rstmt f b) ts i r := .step h fun f => by rw [rstmt]
theorem go_named {ts : List Tok2} {i b : Nat} {e : Str} {w r : List Tok2} {res : Res Stm} (hn : NmF e) (hs : Sub ts i (nmT e :: r))
    (h : Evn (fun f => rbind rpeek fun w2 => if w2 = "->" then rmsg f e
        else if w2 = "sets" then rbind (rtake "sets") fun _ => rbind rname fun x => rbind (rtake "=") fun _ => rbind (rvalue f 0) fun v => rpure (.set e x v)
        else rbind (rtake "asks") fun _ => rbind rname fun x => rpure (.ask e x)) ts (i + 1) res) : Evn (fun f => rstmt f b) ts i res := by
  obtain ⟨w0, _⟩ := hs.head
  have w0 : nw ts i = e := w0
  refine go_stmt (.peek ?_)
  rw [w0]
  exact .ifF hn.2.2.1 (.ifF hn.2.2.2.1 (.ifF hn.2.2.2.2 (.bind (name_read hs) h)))
theorem go_block {ts : List Tok2} {i b : Nat} {bl : List Stm} {ws r : List Tok2} (hb : b + 1 + blkLay bl ≤ 12) (hs : Sub ts i (sg "{" :: r)) (h : Evn (fun f => rblockL f b []) ts (i + 1) (.ok bl (i + 1 + ws.length + 1))) : Evn (fun f => rblock f b) ts i (.ok bl (i + 1 + ws.length + 1)) :=
  .step (k := fun f => if 12 ≤ b then rfail else rbind (rtake "{") fun _ => rblockL f b []) (.ifF (by omega) (.bind (take_read hs) h)) fun f => by rw [rblock]
mutual
theorem stmt_read : ∀ (s : Stm) {ws : List Tok2}, PS s ws → ∀ (ts : List Tok2) (i b : Nat), Sub ts i ws → b + s.lay ≤ 12 → Free (nw ts (i + ws.length)) → Evn (fun f => rstmt f b) ts i (.ok s (i + ws.length))
  | .msg a bb l v x, ws, h, ts, i, b, hs, hb, hf => by
    obtain ⟨hn, wv, hv, rfl⟩ : NmF a ∧ ∃ wv, PV 0 12 v wv ∧ ws = nmT a :: sg "->" :: nmT bb :: sg ":" :: nmT l :: sg "(" :: (wv ++ [sg ")", kw "as", nmT x]) := h
    have h1 := hs.tail
    have h2 := h1.tail
    have h3 := h2.tail
    have h4 := h3.tail
    have h5 := h4.tail
    have h6 := h5.tail
    have h7 := h6.right
    have h8 := h7.tail
    have h9 := h8.tail
    have el : i + (nmT a :: sg "->" :: nmT bb :: sg ":" :: nmT l :: sg "(" :: (wv ++ [sg ")", kw "as", nmT x])).length = i + 1 + 1 + 1 + 1 + 1 + 1 + wv.length + 1 + 1 + 1 := by simp; omega
    rw [el]
    refine go_named (w := []) hn hs (.peek ?_)
    rw [h1.head.1]
    exact .ifT rfl (.bind (take_read h1) (.bind (name_read h2) (.bind (take_read h3) (.bind (name_read h4) (.bind (take_read h5) (.bind (value_read hv h6.left (by rw [h7.head.1]; exact free_of (.inr (.inr (.inl rfl))))) (.bind (take_read h7) (.bind (take_read h8) (.bind (name_read h9) (.pure _))))))))))
  | .set e x v, ws, h, ts, i, b, hs, hb, hf => by
    obtain ⟨hn, wv, hv, rfl⟩ : NmF e ∧ ∃ wv, PV 0 12 v wv ∧ ws = nmT e :: kw "sets" :: nmT x :: sg "=" :: wv := h
    have h1 := hs.tail
    have h2 := h1.tail
    have h3 := h2.tail
    have h4 := h3.tail
    have el : i + (nmT e :: kw "sets" :: nmT x :: sg "=" :: wv).length = i + 1 + 1 + 1 + 1 + wv.length := by simp; omega
    rw [el] at hf ⊢
    refine go_named (w := []) hn hs (.peek ?_)
    rw [h1.head.1]
    exact .ifF (show ¬ ("sets" : Str) = "->" by decide +kernel) (.ifT rfl (.bind (take_read h1) (.bind (name_read h2) (.bind (take_read h3) (.bind (value_read hv h4 hf) (.pure _))))))
  | .ask e x, ws, h, ts, i, b, hs, hb, hf => by
    obtain ⟨hn, rfl⟩ : NmF e ∧ ws = [nmT e, kw "asks", nmT x] := h
    have h1 := hs.tail
    have h2 := h1.tail
    refine go_named (w := []) hn hs (.peek ?_)
    rw [h1.head.1]
    exact .ifF (show ¬ ("asks" : Str) = "->" by decide +kernel) (.ifF (show ¬ ("asks" : Str) = "sets" by decide +kernel) (.bind (take_read h1) (.bind (name_read h2) (.pure _))))
  | .call p cs, ws, h, ts, i, b, hs, hb, hf => by
    obtain ⟨hc, rfl⟩ : cs ≠ [] ∧ ws = kw "call" :: nmT p :: sg "(" :: (commas cs ++ [sg ")"]) := h
    have h1 := hs.tail
    have h2 := h1.tail
    have el : i + (kw "call" :: nmT p :: sg "(" :: (commas cs ++ [sg ")"])).length = i + 1 + 1 + 1 + (commas cs).length + 1 := by simp; omega
    rw [el]
    refine go_stmt (.peek ?_)
    rw [hs.head.1]
    exact .ifF (show ¬ ("call" : Str) = "if" by decide +kernel) (.ifF (show ¬ ("call" : Str) = "while" by decide +kernel) (.ifT rfl (.bind (take_read hs) (.bind (name_read h1) (.bind (namesB_read hc h2) (.pure _))))))
  | .ite e v yes no, ws, h, ts, i, b, hs, hb, hf => by
    rw [PS] at h
    obtain ⟨wv, wy, wn, hv, hy, hno, rfl⟩ := h
    have hb : b + (max (blkLay yes) (blkLay no) + 1) ≤ 12 := hb
    have hd := dec_read (r := wy ++ [sg "}"] ++ (kw "else" :: sg "{" :: (wn ++ [sg "}"]))) hv (by simpa using hs)
    have h3 : Sub ts (i + 3) _ := hs.tail.tail.tail
    have h4 := h3.left.right
    have h5 := h3.right
    rw [List.length_append] at h5
    have e5 : i + 3 + (wv.length + (sg "{" :: (wy ++ [sg "}"])).length) = i + 3 + wv.length + 1 + wy.length + 1 := by simp; omega
    rw [e5] at h5
    have h6 := h5.tail
    have by1 := blk_read yes hy [] ts (i + 3 + wv.length + 1) b h4.tail (by omega)
    have bn1 := blk_read no hno [] ts (i + 3 + wv.length + 1 + wy.length + 1 + 1 + 1) b h6.tail (by omega)
    rw [List.nil_append] at by1 bn1
    have el : i + (kw "if" :: nmT e :: sg ":" :: (wv ++ (sg "{" :: (wy ++ [sg "}"])) ++ (kw "else" :: sg "{" :: (wn ++ [sg "}"])))).length = i + 3 + wv.length + 1 + wy.length + 1 + 1 + 1 + wn.length + 1 := by simp; omega
    rw [el]
    refine go_stmt (.peek ?_)
    rw [hs.head.1]
    refine .ifT rfl (.step (k := fun f => rbind (rdec f "if") fun ev => rbind (rblock f b) fun yes => rbind (rtake "else") fun _ => rbind (rblock f b) fun no => rpure (.ite ev.1 ev.2 yes no)) ?_ fun f => by rw [rif])
    exact .bind hd (.bind (go_block (ws := wy) (by omega) h4 by1) (.bind (take_read h5) (.bind (go_block (ws := wn) (by omega) h6 bn1) (.pure _))))
  | .whl e v bl, ws, h, ts, i, b, hs, hb, hf => by
    rw [PS] at h
    obtain ⟨wv, wb, hv, hbl, rfl⟩ := h
    have hb : b + (blkLay bl + 1) ≤ 12 := hb
    have hd := dec_read (r := wb ++ [sg "}"]) hv hs
    have h3 : Sub ts (i + 3) _ := hs.tail.tail.tail
    have h4 := h3.right
    have b1 := blk_read bl hbl [] ts (i + 3 + wv.length + 1) b h4.tail (by omega)
    rw [List.nil_append] at b1
    have el : i + (kw "while" :: nmT e :: sg ":" :: (wv ++ (sg "{" :: (wb ++ [sg "}"])))).length = i + 3 + wv.length + 1 + wb.length + 1 := by simp; omega
    rw [el]
    refine go_stmt (.peek ?_)
    rw [hs.head.1]
    refine .ifF (show ¬ ("while" : Str) = "if" by decide +kernel) (.ifT rfl (.step (k := fun f => rbind (rdec f "while") fun ev => rbind (rblock f b) fun bl => rpure (.whl ev.1 ev.2 bl)) ?_ fun f => by rw [rwhile]))
    exact .bind hd (.bind (go_block (ws := wb) (by omega) h4 b1) (.pure _))
theorem blk_read : ∀ (bl : List Stm) {ws : List Tok2}, PB bl ws → ∀ (acc : List Stm) (ts : List Tok2) (i b : Nat), Sub ts i (ws ++ [sg "}"]) → b + 1 + blkLay bl ≤ 12 → Evn (fun f => rblockL f b acc) ts i (.ok (acc ++ bl) (i + ws.length + 1))
  | [], ws, h, acc, ts, i, b, hs, hb => by
    have h : ws = [] := h
    subst h
    rw [List.append_nil]
    have w0 := hs.head.1
    exact .step (k := fun f => rbind rpeek fun w => if w = "}" then rbind (rtake "}") fun _ => rpure acc else rbind (rstmt f (b + 1)) fun s => rblockL f b (acc ++ [s])) (.peek (.ifT w0 (.bind (.take w0) (.pure _)))) fun f => by rw [rblockL]
  | s :: r, ws, h, acc, ts, i, b, hs, hb => by
    rw [PB] at h
    obtain ⟨w1, w2, hs1, hr, rfl⟩ := h
    have hb : b + 1 + max s.lay (blkLay r) ≤ 12 := hb
    rw [List.append_assoc] at hs
    have h1 := hs.left
    have h2 := hs.right
    have hf : Free (nw ts (i + w1.length)) := by
      cases r with
      | nil =>
        have e : w2 = [] := hr
        subst e
        rw [h2.head.1]
        exact free_of (.inr (.inl rfl))
      | cons s2 r2 =>
        rw [PB] at hr
        obtain ⟨u1, u2, hu, _, rfl⟩ := hr
        obtain ⟨t, q, rfl, ht, _⟩ := ps_head hu
        rw [h2.head.1]
        exact ht
    have a1 := stmt_read s hs1 ts i (b + 1) h1 (by omega) hf
    have a2 := blk_read r hr (acc ++ [s]) ts (i + w1.length) b h2 (by omega)
    rw [List.append_assoc] at a2
    obtain ⟨t, q, rfl, _, ht⟩ := ps_head hs1
    have w0 : ¬ nw ts i = "}" := by rw [h1.head.1]; exact ht
    have el : i + ((t :: q) ++ w2).length + 1 = i + (t :: q).length + w2.length + 1 := by rw [List.length_append]; omega
    rw [el]
    exact .step (k := fun f => rbind rpeek fun w => if w = "}" then rbind (rtake "}") fun _ => rpure acc else rbind (rstmt f (b + 1)) fun s => rblockL f b (acc ++ [s])) (.peek (.ifF w0 (.bind a1 a2))) fun f => by rw [rblockL]
end
def PP (p : Prt) (ws : List Tok2) : Prop := p.params ≠ [] ∧ ∃ wb, PB p.body wb ∧ ws = kw "part" :: nmT p.name :: ((sg "(" :: (commas p.params ++ [sg ")"])) ++ (sg "{" :: (wb ++ [sg "}"])))
def PPs : List Prt → List Tok2 → Prop
  | [], ws => ws = []
  | p :: r, ws => ∃ w1 w2, PP p w1 ∧ PPs r w2 ∧ ws = w1 ++ w2
def PT (t : Tree) (ws : List Tok2) : Prop := t.ends ≠ [] ∧ ∃ wp wb, PPs t.parts wp ∧ PB t.body wb ∧ ws = kw "ends" :: (commas t.ends ++ (wp ++ (kw "play" :: sg "{" :: (wb ++ [sg "}"]))))
theorem part_read {p : Prt} {ws : List Tok2} (h : PP p ws) {ts : List Tok2} {i : Nat} (hs : Sub ts i ws) (hl : blkLay p.body ≤ 11) : Evn (fun f => rpart f) ts i (.ok p (i + ws.length)) := by
  obtain ⟨h0, wb, hb, rfl⟩ := h
  have h1 := hs.tail
  have h2 := h1.tail
  have h3 := h2.left
  have h4 := h2.right
  have e4 : i + 1 + 1 + (sg "(" :: (commas p.params ++ [sg ")"])).length = i + 1 + 1 + 1 + (commas p.params).length + 1 := by simp; omega
  rw [e4] at h4
  have b1 := blk_read p.body hb [] ts (i + 1 + 1 + 1 + (commas p.params).length + 1 + 1) 0 h4.tail (by omega)
  rw [List.nil_append] at b1
  have el : i + (kw "part" :: nmT p.name :: ((sg "(" :: (commas p.params ++ [sg ")"])) ++ (sg "{" :: (wb ++ [sg "}"])))).length = i + 1 + 1 + 1 + (commas p.params).length + 1 + 1 + wb.length + 1 := by simp; omega
  rw [el]
  exact .bind (take_read hs) (.bind (name_read h1) (.bind (namesB_read h0 h3) (.bind (go_block (ws := wb) (by omega) h4 b1) (.pure _))))
theorem parts_read : ∀ (ps : List Prt) {ws : List Tok2}, PPs ps ws → ∀ (acc : List Prt) (ts : List Tok2) (i : Nat), Sub ts i ws → (∀ p ∈ ps, blkLay p.body ≤ 11) → ¬ nw ts (i + ws.length) = "part" → Evn (fun f => rparts f acc) ts i (.ok (acc ++ ps) (i + ws.length))
  | [], ws, h, acc, ts, i, hs, _, hn => by
    have h : ws = [] := h
    subst h
    rw [List.append_nil]
    have hn : ¬ nw ts i = "part" := hn
    exact .step (k := fun f => rbind rpeek fun w => if w = "part" then rbind (rpart f) fun p => rparts f (acc ++ [p]) else rpure acc) (.peek (.ifF hn (.pure acc))) fun f => rfl
  | p :: r, ws, h, acc, ts, i, hs, hl, hn => by
    obtain ⟨w1, w2, hp, hr, rfl⟩ : ∃ w1 w2, PP p w1 ∧ PPs r w2 ∧ ws = w1 ++ w2 := h
    have a1 := part_read hp hs.left (hl p (List.mem_cons_self ..))
    rw [List.length_append, ← Nat.add_assoc] at hn ⊢
    have a2 := parts_read r hr (acc ++ [p]) ts (i + w1.length) hs.right (fun q hq => hl q (List.mem_cons_of_mem _ hq)) hn
    rw [List.append_assoc] at a2
    have w0 : nw ts i = "part" := by
      obtain ⟨_, wb, _, rfl⟩ := hp
      exact hs.left.head.1
    exact .step (k := fun f => rbind rpeek fun w => if w = "part" then rbind (rpart f) fun p => rparts f (acc ++ [p]) else rpure acc) (.peek (.ifT w0 (.bind a1 a2))) fun f => rfl
theorem parts_first : ∀ {ps : List Prt} {ws r : List Tok2} {ts : List Tok2} {i : Nat}, PPs ps ws → Sub ts i (ws ++ kw "play" :: r) → ¬ nw ts i = ","
  | [], ws, r, ts, i, h, hs => by
    have h : ws = [] := h
    subst h
    rw [hs.head.1]
    show ¬ ("play" : Str) = ","
    decide +kernel
  | p :: ps, ws, r, ts, i, h, hs => by
    obtain ⟨w1, w2, ⟨_, wb, _, rfl⟩, hr, rfl⟩ : ∃ w1 w2, PP p w1 ∧ PPs ps w2 ∧ ws = w1 ++ w2 := h
    rw [hs.head.1]
    show ¬ ("part" : Str) = ","
    decide +kernel
/-- a printed score is read as this score; a token more behind it is where the reading fails -/
theorem score_read {t : Tree} {ws : List Tok2} (h : PT t ws) {ts : List Tok2} (hs : Sub ts 0 ws) (hp : ∀ p ∈ t.parts, blkLay p.body ≤ 11) (hb : blkLay t.body ≤ 11) :
    (¬ ws.length < ts.length → Evn rscore ts 0 (.ok t ws.length)) ∧ (ws.length < ts.length → Evn rscore ts 0 (.bad ws.length)) := by
  obtain ⟨h0, wp, wb, hps, hbl, rfl⟩ := h
  have h1 := hs.tail
  have h2 := h1.right
  have h3 := h2.right
  have h4 := h3.tail
  have b1 := blk_read t.body hbl [] ts (0 + 1 + (commas t.ends).length + wp.length + 1 + 1) 0 h4.tail (by omega)
  rw [List.nil_append] at b1
  have n1 := names_read h0 h1.left (parts_first hps h2)
  have p1 := parts_read t.parts hps [] ts (0 + 1 + (commas t.ends).length) h2.left hp (by rw [h3.head.1]; show ¬ ("play" : Str) = "part"; decide +kernel)
  rw [List.nil_append] at p1
  have el : (kw "ends" :: (commas t.ends ++ (wp ++ (kw "play" :: sg "{" :: (wb ++ [sg "}"]))))).length = 0 + 1 + (commas t.ends).length + wp.length + 1 + 1 + wb.length + 1 := by simp; omega
  rw [el]
  have all : ∀ {r : Res Tree}, Evn (fun _ => rlast (⟨t.ends, t.parts, t.body⟩ : Tree)) ts (0 + 1 + (commas t.ends).length + wp.length + 1 + 1 + wb.length + 1) r → Evn rscore ts 0 r := fun q =>
    .bind (take_read hs) (.bind n1 (.bind p1 (.bind (take_read h3) (.bind (go_block (ws := wb) (by omega) h4 b1) q))))
  exact ⟨fun c => all (.const (by unfold rlast; rw [if_neg c])), fun c => all (.const (by unfold rlast; rw [if_pos c]))⟩
end OS

namespace OS
open PySem PySem.Spec PyProof.Rows L2
def topS (i : Nat) : Stmt := PySem.Challenge.pw_onescore_k02_trees_are_read_as_printed.main.body.getD i (.Pass ⟨0, 0, 0, 0⟩)
abbrev s_SyntaxProblem___init__ : Stmt := inClass (topS 2) 0
abbrev s_run_end : Stmt := topS 13
theorem sc_run_end : FnScope ["text", "at", "letters"] ["text", "at", "letters"] (defScope s_run_end) := ⟨rfl, rfl, rfl, by decide +kernel, rfl, by decide +kernel, by decide +kernel⟩
abbrev s_line_end : Stmt := topS 14
theorem sc_line_end : FnScope ["text", "at", "end"] ["text", "at"] (defScope s_line_end) := ⟨rfl, rfl, rfl, by decide +kernel, rfl, by decide +kernel, by decide +kernel⟩
abbrev s_token_at : Stmt := topS 15
theorem sc_token_at : FnScope ["text", "at", "end"] ["text", "at"] (defScope s_token_at) := ⟨rfl, rfl, rfl, by decide +kernel, rfl, by decide +kernel, by decide +kernel⟩
abbrev s_tokens : Stmt := topS 16
theorem sc_tokens : FnScope ["text", "found", "at", "sort", "end"] ["text"] (defScope s_tokens) := ⟨rfl, rfl, rfl, by decide +kernel, rfl, by decide +kernel, by decide +kernel⟩
abbrev s_number_value : Stmt := topS 17
theorem sc_number_value : FnScope ["digits", "value", "digit"] ["digits"] (defScope s_number_value) := ⟨rfl, rfl, rfl, by decide +kernel, rfl, by decide +kernel, by decide +kernel⟩
abbrev s_Reader___init__ : Stmt := inClass (topS 18) 0
theorem sc_Reader___init__ : FnScope ["self", "text"] ["self", "text"] (defScope s_Reader___init__) := ⟨rfl, rfl, rfl, by decide +kernel, rfl, by decide +kernel, by decide +kernel⟩
abbrev s_Reader_has_more : Stmt := inClass (topS 18) 1
theorem sc_Reader_has_more : FnScope ["self"] ["self"] (defScope s_Reader_has_more) := ⟨rfl, rfl, rfl, by decide +kernel, rfl, by decide +kernel, by decide +kernel⟩
abbrev s_Reader_next_word : Stmt := inClass (topS 18) 2
theorem sc_Reader_next_word : FnScope ["self", "_", "start", "end"] ["self"] (defScope s_Reader_next_word) := ⟨rfl, rfl, rfl, by decide +kernel, rfl, by decide +kernel, by decide +kernel⟩
abbrev s_Reader_next_sort : Stmt := inClass (topS 18) 3
theorem sc_Reader_next_sort : FnScope ["self"] ["self"] (defScope s_Reader_next_sort) := ⟨rfl, rfl, rfl, by decide +kernel, rfl, by decide +kernel, by decide +kernel⟩
abbrev s_Reader_fail : Stmt := inClass (topS 18) 4
theorem sc_Reader_fail : FnScope ["self"] ["self"] (defScope s_Reader_fail) := ⟨rfl, rfl, rfl, by decide +kernel, rfl, by decide +kernel, by decide +kernel⟩
abbrev s_Reader_take : Stmt := inClass (topS 18) 5
theorem sc_Reader_take : FnScope ["self", "word"] ["self", "word"] (defScope s_Reader_take) := ⟨rfl, rfl, rfl, by decide +kernel, rfl, by decide +kernel, by decide +kernel⟩
abbrev s_Reader_take_sort : Stmt := inClass (topS 18) 6
theorem sc_Reader_take_sort : FnScope ["self", "sort", "word"] ["self", "sort"] (defScope s_Reader_take_sort) := ⟨rfl, rfl, rfl, by decide +kernel, rfl, by decide +kernel, by decide +kernel⟩
abbrev s_Reader_read_name : Stmt := inClass (topS 18) 7
theorem sc_Reader_read_name : FnScope ["self"] ["self"] (defScope s_Reader_read_name) := ⟨rfl, rfl, rfl, by decide +kernel, rfl, by decide +kernel, by decide +kernel⟩
abbrev s_Reader_read_names : Stmt := inClass (topS 18) 8
theorem sc_Reader_read_names : FnScope ["self", "names"] ["self"] (defScope s_Reader_read_names) := ⟨rfl, rfl, rfl, by decide +kernel, rfl, by decide +kernel, by decide +kernel⟩
abbrev s_Reader_read_names_in_brackets : Stmt := inClass (topS 18) 9
theorem sc_Reader_read_names_in_brackets : FnScope ["self", "names"] ["self"] (defScope s_Reader_read_names_in_brackets) := ⟨rfl, rfl, rfl, by decide +kernel, rfl, by decide +kernel, by decide +kernel⟩
abbrev s_Reader_read_score : Stmt := inClass (topS 18) 10
theorem sc_Reader_read_score : FnScope ["self", "ends", "parts", "block"] ["self"] (defScope s_Reader_read_score) := ⟨rfl, rfl, rfl, by decide +kernel, rfl, by decide +kernel, by decide +kernel⟩
abbrev s_Reader_read_part : Stmt := inClass (topS 18) 11
theorem sc_Reader_read_part : FnScope ["self", "name", "parameters"] ["self"] (defScope s_Reader_read_part) := ⟨rfl, rfl, rfl, by decide +kernel, rfl, by decide +kernel, by decide +kernel⟩
abbrev s_Reader_read_block : Stmt := inClass (topS 18) 12
theorem sc_Reader_read_block : FnScope ["self", "blocks", "statements"] ["self", "blocks"] (defScope s_Reader_read_block) := ⟨rfl, rfl, rfl, by decide +kernel, rfl, by decide +kernel, by decide +kernel⟩
abbrev s_Reader_read_statement : Stmt := inClass (topS 18) 13
theorem sc_Reader_read_statement : FnScope ["self", "blocks", "word", "end", "variable"] ["self", "blocks"] (defScope s_Reader_read_statement) := ⟨rfl, rfl, rfl, by decide +kernel, rfl, by decide +kernel, by decide +kernel⟩
abbrev s_Reader_read_message : Stmt := inClass (topS 18) 14
theorem sc_Reader_read_message : FnScope ["self", "sender", "receiver", "label", "value"] ["self", "sender"] (defScope s_Reader_read_message) := ⟨rfl, rfl, rfl, by decide +kernel, rfl, by decide +kernel, by decide +kernel⟩
abbrev s_Reader_read_decision : Stmt := inClass (topS 18) 15
theorem sc_Reader_read_decision : FnScope ["self", "word", "end"] ["self", "word"] (defScope s_Reader_read_decision) := ⟨rfl, rfl, rfl, by decide +kernel, rfl, by decide +kernel, by decide +kernel⟩
abbrev s_Reader_read_if : Stmt := inClass (topS 18) 16
theorem sc_Reader_read_if : FnScope ["self", "blocks", "end", "value", "yes"] ["self", "blocks"] (defScope s_Reader_read_if) := ⟨rfl, rfl, rfl, by decide +kernel, rfl, by decide +kernel, by decide +kernel⟩
abbrev s_Reader_read_while : Stmt := inClass (topS 18) 17
theorem sc_Reader_read_while : FnScope ["self", "blocks", "end", "value"] ["self", "blocks"] (defScope s_Reader_read_while) := ⟨rfl, rfl, rfl, by decide +kernel, rfl, by decide +kernel, by decide +kernel⟩
abbrev s_Reader_read_value : Stmt := inClass (topS 18) 18
theorem sc_Reader_read_value : FnScope ["self", "brackets", "left", "sign"] ["self", "brackets"] (defScope s_Reader_read_value) := ⟨rfl, rfl, rfl, by decide +kernel, rfl, by decide +kernel, by decide +kernel⟩
abbrev s_Reader_read_sum : Stmt := inClass (topS 18) 19
theorem sc_Reader_read_sum : FnScope ["self", "brackets", "left", "sign"] ["self", "brackets"] (defScope s_Reader_read_sum) := ⟨rfl, rfl, rfl, by decide +kernel, rfl, by decide +kernel, by decide +kernel⟩
abbrev s_Reader_read_product : Stmt := inClass (topS 18) 20
theorem sc_Reader_read_product : FnScope ["self", "brackets", "left"] ["self", "brackets"] (defScope s_Reader_read_product) := ⟨rfl, rfl, rfl, by decide +kernel, rfl, by decide +kernel, by decide +kernel⟩
abbrev s_Reader_read_simple : Stmt := inClass (topS 18) 21
theorem sc_Reader_read_simple : FnScope ["self", "brackets", "value"] ["self", "brackets"] (defScope s_Reader_read_simple) := ⟨rfl, rfl, rfl, by decide +kernel, rfl, by decide +kernel, by decide +kernel⟩
abbrev s_read_tree : Stmt := topS 19
theorem sc_read_tree : FnScope ["text"] ["text"] (defScope s_read_tree) := ⟨rfl, rfl, rfl, by decide +kernel, rfl, by decide +kernel, by decide +kernel⟩
abbrev s_needs_brackets : Stmt := topS 23
theorem sc_needs_brackets : FnScope ["part", "sign", "is_right"] ["part", "sign", "is_right"] (defScope s_needs_brackets) := ⟨rfl, rfl, rfl, by decide +kernel, rfl, by decide +kernel, by decide +kernel⟩
abbrev s_value_pieces : Stmt := topS 24
theorem sc_value_pieces : FnScope ["tree", "sign", "left", "right", "pieces"] ["tree"] (defScope s_value_pieces) := ⟨rfl, rfl, rfl, by decide +kernel, rfl, by decide +kernel, by decide +kernel⟩
abbrev s_print_value : Stmt := topS 25
theorem sc_print_value : FnScope ["tree", "text", "waiting", "piece"] ["tree"] (defScope s_print_value) := ⟨rfl, rfl, rfl, by decide +kernel, rfl, by decide +kernel, by decide +kernel⟩
abbrev s_with_commas : Stmt := topS 26
theorem sc_with_commas : FnScope ["names", "pieces", "name"] ["names"] (defScope s_with_commas) := ⟨rfl, rfl, rfl, by decide +kernel, rfl, by decide +kernel, by decide +kernel⟩
abbrev s_statement_pieces : Stmt := topS 27
theorem sc_statement_pieces : FnScope ["statement", "kind", "_", "sender", "receiver", "label", "value", "variable", "pieces"] ["statement"] (defScope s_statement_pieces) := ⟨rfl, rfl, rfl, by decide +kernel, rfl, by decide +kernel, by decide +kernel⟩
abbrev s_block_pieces : Stmt := topS 28
theorem sc_block_pieces : FnScope ["block", "pieces", "statement"] ["block"] (defScope s_block_pieces) := ⟨rfl, rfl, rfl, by decide +kernel, rfl, by decide +kernel, by decide +kernel⟩
abbrev s_tree_pieces : Stmt := topS 29
theorem sc_tree_pieces : FnScope ["tree", "ends", "parts", "block", "pieces", "name", "parameters", "inner"] ["tree"] (defScope s_tree_pieces) := ⟨rfl, rfl, rfl, by decide +kernel, rfl, by decide +kernel, by decide +kernel⟩
abbrev s_is_part_of_word : Stmt := topS 30
theorem sc_is_part_of_word : FnScope ["sign"] ["sign"] (defScope s_is_part_of_word) := ⟨rfl, rfl, rfl, by decide +kernel, rfl, by decide +kernel, by decide +kernel⟩
abbrev s_print_tree : Stmt := topS 31
theorem sc_print_tree : FnScope ["tree", "text", "last", "waiting", "piece"] ["tree"] (defScope s_print_tree) := ⟨rfl, rfl, rfl, by decide +kernel, rfl, by decide +kernel, by decide +kernel⟩
abbrev s__law_tape : Stmt := topS 33
theorem sc__law_tape : FnScope ["script", "cell", "cells", "seed"] ["script"] (defScope s__law_tape) := ⟨rfl, rfl, rfl, by decide +kernel, rfl, by decide +kernel, by decide +kernel⟩
abbrev s__law_take : Stmt := topS 34
theorem sc__law_take : FnScope ["tape", "many", "drawn", "mixed"] ["tape", "many"] (defScope s__law_take) := ⟨rfl, rfl, rfl, by decide +kernel, rfl, by decide +kernel, by decide +kernel⟩
abbrev s__law_is_integer : Stmt := topS 35
theorem sc__law_is_integer : FnScope ["actual"] ["actual"] (defScope s__law_is_integer) := ⟨rfl, rfl, rfl, by decide +kernel, rfl, by decide +kernel, by decide +kernel⟩
abbrev s__law_same_items : Stmt := topS 36
theorem sc__law_same_items : FnScope ["actual", "expected", "k"] ["actual", "expected"] (defScope s__law_same_items) := ⟨rfl, rfl, rfl, by decide +kernel, rfl, by decide +kernel, by decide +kernel⟩
abbrev s__law_same : Stmt := topS 37
theorem sc__law_same : FnScope ["actual", "expected", "key"] ["actual", "expected"] (defScope s__law_same) := ⟨rfl, rfl, rfl, by decide +kernel, rfl, by decide +kernel, by decide +kernel⟩
abbrev s__law_number : Stmt := topS 38
theorem sc__law_number : FnScope ["tape"] ["tape"] (defScope s__law_number) := ⟨rfl, rfl, rfl, by decide +kernel, rfl, by decide +kernel, by decide +kernel⟩
abbrev s__law_value : Stmt := topS 39
theorem sc__law_value : FnScope ["tape", "depth", "choice", "sign"] ["tape", "depth"] (defScope s__law_value) := ⟨rfl, rfl, rfl, by decide +kernel, rfl, by decide +kernel, by decide +kernel⟩
abbrev s__law_two : Stmt := topS 40
theorem sc__law_two : FnScope ["tape", "ends", "one", "other"] ["tape", "ends"] (defScope s__law_two) := ⟨rfl, rfl, rfl, by decide +kernel, rfl, by decide +kernel, by decide +kernel⟩
abbrev s__law_statement : Stmt := topS 41
theorem sc__law_statement : FnScope ["tape", "ends", "parts", "depth", "choice", "variable", "end", "sender", "receiver", "label", "part", "fitting", "chosen", "k", "rest", "yes", "name"] ["tape", "ends", "parts", "depth"] (defScope s__law_statement) := ⟨rfl, rfl, rfl, by decide +kernel, rfl, by decide +kernel, by decide +kernel⟩
abbrev s__law_block : Stmt := topS 42
theorem sc__law_block : FnScope ["tape", "ends", "parts", "depth", "most", "k"] ["tape", "ends", "parts", "depth", "most"] (defScope s__law_block) := ⟨rfl, rfl, rfl, by decide +kernel, rfl, by decide +kernel, by decide +kernel⟩
abbrev s__law_tree : Stmt := topS 43
theorem sc__law_tree : FnScope ["tape", "depth", "most", "ends", "parts", "k", "parameters", "name"] ["tape", "depth", "most"] (defScope s__law_tree) := ⟨rfl, rfl, rfl, by decide +kernel, rfl, by decide +kernel, by decide +kernel⟩
abbrev s__law_put : Stmt := topS 44
theorem sc__law_put : FnScope ["tape", "out", "string", "last", "letters", "gap", "melts"] ["tape", "out", "string"] (defScope s__law_put) := ⟨rfl, rfl, rfl, by decide +kernel, rfl, by decide +kernel, by decide +kernel⟩
abbrev s__law_put_value : Stmt := topS 45
theorem sc__law_put_value : FnScope ["tape", "out", "tree", "least", "rank", "brackets"] ["tape", "out", "tree", "least"] (defScope s__law_put_value) := ⟨rfl, rfl, rfl, by decide +kernel, rfl, by decide +kernel, by decide +kernel⟩
abbrev s__law_put_all : Stmt := topS 46
theorem sc__law_put_all : FnScope ["tape", "out", "strings", "string"] ["tape", "out", "strings"] (defScope s__law_put_all) := ⟨rfl, rfl, rfl, by decide +kernel, rfl, by decide +kernel, by decide +kernel⟩
abbrev s__law_put_names : Stmt := topS 47
theorem sc__law_put_names : FnScope ["tape", "out", "names", "k"] ["tape", "out", "names"] (defScope s__law_put_names) := ⟨rfl, rfl, rfl, by decide +kernel, rfl, by decide +kernel, by decide +kernel⟩
abbrev s__law_put_block : Stmt := topS 48
theorem sc__law_put_block : FnScope ["tape", "out", "block", "one"] ["tape", "out", "block"] (defScope s__law_put_block) := ⟨rfl, rfl, rfl, by decide +kernel, rfl, by decide +kernel, by decide +kernel⟩
abbrev s__law_put_tree : Stmt := topS 49
theorem sc__law_put_tree : FnScope ["tape", "out", "tree", "name", "parameters", "block"] ["tape", "out", "tree"] (defScope s__law_put_tree) := ⟨rfl, rfl, rfl, by decide +kernel, rfl, by decide +kernel, by decide +kernel⟩
abbrev s__law_told : Stmt := topS 50
theorem sc__law_told : FnScope ["tree", "left", "right", "inside"] ["tree"] (defScope s__law_told) := ⟨rfl, rfl, rfl, by decide +kernel, rfl, by decide +kernel, by decide +kernel⟩
abbrev s_law : Stmt := topS 51
theorem sc_law : FnScope ["script", "tape", "tree", "out", "value", "more", "e"] ["script"] (defScope s_law) := ⟨rfl, rfl, rfl, by decide +kernel, rfl, by decide +kernel, by decide +kernel⟩
/-- the built-in names are the built-ins' -/
structure Txt (K : PySem.W.Frag) (mg : Str → Option Value) : Prop where
  len : mg "len" = none
  abs : mg "abs" = none
  int : mg "int" = none
  bool : mg "bool" = none
  str : mg "str" = none
  list : mg "list" = none
  tuple : mg "tuple" = none
  dict : mg "dict" = none
  isinstance : mg "isinstance" = none
  range : mg "range" = none
end OS

namespace OS
open PySem PySem.Spec PyProof.Rows L2
def wordsL : List Str := ["ends", "part", "play", "call", "asks", "sets", "as", "if", "else", "while"]
def longsL : List Str := ["->", "=="]
def zLET : Str := "abcdefghijklmnopqrstuvwxyzABCDEFGHIJKLMNOPQRSTUVWXYZ"
def zDIG : Str := "0123456789"
def zNAM : Str := "abcdefghijklmnopqrstuvwxyzABCDEFGHIJKLMNOPQRSTUVWXYZ0123456789_"
def zSIG : Str := "(){},:=<+-*"
/-- the reader's constants -/
structure TokTxt (K : PySem.W.Frag) (mg : Str → Option Value) : Prop where
  mLET : ∃ t, mg "LETTERS" = some (.str zLET t)
  mDIG : ∃ t, mg "DIGITS" = some (.str zDIG t)
  mNAM : ∃ t, mg "LETTERS_OF_NAMES" = some (.str zNAM t)
  mSIG : ∃ t, mg "SIGNS" = some (.str zSIG t)
  mWOR : ∃ a, mg "WORDS" = some (.ref a) ∧ ∀ H, SqT K H a (wordsL.map V.str)
  mLON : ∃ a, mg "LONG_SIGNS" = some (.ref a) ∧ ∀ H, SqT K H a (longsL.map V.str)
/-- the table of the texts: words, long signs, signs -/
def tab : Tab := { word := fun l => inV (.str ⟨l.toArray⟩) (wordsL.map V.str), long := fun l => inV (.str ⟨l.toArray⟩) (longsL.map V.str), sign := inS zSIG }
/-! ### the signs by classes -/
theorem low_of {z : Str} (h : z.cps.toList.all (fun c => decide (c < 128)) = true) {c : Nat} (hc : ¬ c < 128) : inS z c = false := by
  unfold inS
  refine decide_eq_false fun m => hc ?_
  exact of_decide_eq_true (List.all_eq_true.mp h c m)
theorem inS_LET (c : Nat) : inS zLET c = isLetter c := by
  by_cases h : c < 128
  · have q : ∀ c : Nat, c < 128 → inS zLET c = isLetter c := by decide +kernel
    exact q c h
  · rw [low_of (by decide +kernel) h]
    unfold isLetter
    rw [decide_eq_false (show ¬ c ≤ 122 by omega), decide_eq_false (show ¬ c ≤ 90 by omega)]
    simp
theorem inS_DIG (c : Nat) : inS zDIG c = isDigit c := by
  by_cases h : c < 128
  · have q : ∀ c : Nat, c < 128 → inS zDIG c = isDigit c := by decide +kernel
    exact q c h
  · rw [low_of (by decide +kernel) h]
    unfold isDigit
    rw [decide_eq_false (show ¬ c ≤ 57 by omega)]
    simp
theorem inS_NAM (c : Nat) : inS zNAM c = isName c := by
  by_cases h : c < 128
  · have q : ∀ c : Nat, c < 128 → inS zNAM c = isName c := by decide +kernel
    exact q c h
  · rw [low_of (by decide +kernel) h]
    unfold isName isLetter isDigit
    rw [decide_eq_false (show ¬ c ≤ 122 by omega), decide_eq_false (show ¬ c ≤ 90 by omega), decide_eq_false (show ¬ c ≤ 57 by omega)]
    have e : (c == 95) = false := by
      rw [beq_eq_false_iff_ne]
      omega
    rw [e]
    simp
section
variable {P : Program} {w : World} {K : PySem.W.Frag} {mg : Str → Option Value} {base : Heap}
/-! ### run_end -/
def spRun : Sp := fun vs H Q _ => ∃ (z l : Str) (i : Nat), vs = [.str z, .int i, .str l] ∧ z.length ≤ 100000 ∧ i ≤ z.length ∧ Q (.int (run (inS l) z.cps.toList i : Nat)) H
theorem ok_run_end {f : Addr} {fd : FuncData} (F : Fun K "run_end" "run_end" s_run_end f fd) (T : Txt K mg) : FnOk P w K mg base CX0 1 f fd ["text", "at", "letters"] spRun := by
  refine F.ok sc_run_end (fun vs H Q E h => ?_) (fun cdv A outer s H vs Q E hr h => ?_)
  · obtain ⟨z, l, i, rfl, _⟩ := h
    rfl
  · obtain ⟨z, l, i, rfl, hz, hi, k⟩ := h
    have hzl := len_cps z
    refine ⟨_, (pss_cons (ps_while PassesOwn.never (PW.pt (pw_and (pt_cmpR op_lt (pv 1) (pe_callB call_len_str (by rfl) T.len PySem.boot_len (pa_cons (pv 0) pa_nil)) (nomark _)) (pw_and1 (pt_cmpR op_in_sign (pe_ix ix_str (pv 0) (pv 1) (fun _ _ => rfl)) (pv 2) (by rfl))))) (pss_one (ps_aug (i := 1) sc_run_end.nd rfl (.inl rfl) pe_int ip_add)))
      (pss_one (ps_ret (pv 1)))), ?_⟩
    refine ⟨fun m σ H' => ∃ j : Nat, σ = [some (.str z), some (.int j), some (.str l)] ∧ m + j = z.length ∧ run (inS l) z.cps.toList j = run (inS l) z.cps.toList i ∧ H' = H,
      ⟨z.length - i, i, rfl, by omega, rfl, rfl⟩, ?_⟩
    rintro m σ H' ⟨j, rfl, hj, ej, rfl⟩
    refine ⟨_, rfl, _, rfl, z, rfl, sz6 hz, _, _, rfl, rfl, _, rfl, ?_⟩
    by_cases c1 : j < z.length
    · rw [decide_eq_true (show (j : Int) < (z.length : Int) by omega)]
      refine iteT ?_
      obtain ⟨c, ec⟩ : ∃ c, z.cps.toList[j]? = some c := ⟨_, List.getElem?_eq_getElem (by omega)⟩
      refine ⟨_, rfl, _, rfl, z, _, c, rfl, rfl, sz6 hz, atI_cps ec, _, rfl, c, l, rfl, rfl, _, rfl, ?_⟩
      by_cases c2 : inS l c = true
      · rw [show decide (c ∈ l.cps.toList) = true from c2]
        refine iteT ⟨_, fun _ _ h => h, ?_⟩
        refine ⟨_, rfl, _, _, rfl, rfl, ?_⟩
        exact ⟨m - 1, by omega, j + 1, rfl, by omega, by rw [← run_go ec c2]; exact ej, rfl⟩
      · rw [show decide (c ∈ l.cps.toList) = false from Bool.eq_false_iff.mpr c2]
        refine iteF ⟨_, rfl, ?_⟩
        rw [← ej, run_stop ec (Bool.eq_false_iff.mpr c2)] at k
        exact k
    · rw [decide_eq_false (show ¬ (j : Int) < (z.length : Int) by omega)]
      refine iteF (iteF ⟨_, rfl, ?_⟩)
      rw [← ej, run_end (by omega)] at k
      exact k
/-! ### line_end -/
def spLine : Sp := fun vs H Q _ => ∃ (z : Str) (i : Nat), vs = [.str z, .int i] ∧ z.length ≤ 100000 ∧ i ≤ z.length ∧ Q (.int (run notNl z.cps.toList i : Nat)) H
theorem ok_line_end {f : Addr} {fd : FuncData} (F : Fun K "line_end" "line_end" s_line_end f fd) (T : Txt K mg) : FnOk P w K mg base CX0 1 f fd ["text", "at"] spLine := by
  refine F.ok sc_line_end (fun vs H Q E h => ?_) (fun cdv A outer s H vs Q E hr h => ?_)
  · obtain ⟨z, i, rfl, _⟩ := h
    rfl
  · obtain ⟨z, i, rfl, hz, hi, k⟩ := h
    have hzl := len_cps z
    refine ⟨_, (pss_cons (ps_set (i := 2) sc_line_end.nd rfl (.inl rfl) (pe_bm PySem.F.plainAttrs_str PySem.F.slot_str_find PySem.F.type_str_find mt_find3 (pv 0) (pa_cons pe_str (pa_cons (pv 1) pa_nil))))
      (pss_one (ps_ret (pe_ifExp (pt_cmpR op_eq (pv 2) (pe_un un_neg pe_int) (nomark _)) (pe_callB call_len_str (by rfl) T.len PySem.boot_len (pa_cons (pv 0) pa_nil)) (pv 2))))), ?_⟩
    have hrl := run_le notNl z.cps.toList (i := i) (by omega)
    have e0 : Txt.find3 z (Str.ofString "\n") (i : Int) = if run notNl z.cps.toList i < z.length then ((run notNl z.cps.toList i : Nat) : Int) else -1 := find3_one z 10 i hi
    refine ⟨_, rfl, rfl, _, rfl, z, _, _, rfl, rfl, ?_⟩
    rw [e0]
    by_cases c : run notNl z.cps.toList i < z.length
    · rw [if_pos c]
      refine ⟨_, rfl, _, rfl, rfl, _, rfl, ?_⟩
      rw [decide_eq_false (fun q => by injection q with q; omega)]
      exact iteF ⟨_, rfl, k⟩
    · rw [if_neg c]
      refine ⟨_, rfl, _, rfl, rfl, _, rfl, ?_⟩
      rw [decide_eq_true rfl]
      refine iteT ⟨_, rfl, z, rfl, sz6 hz, ?_⟩
      rw [show (z.length : Nat) = run notNl z.cps.toList i by omega]
      exact k
/-! ### token_at -/
def kindV : Srt → V
  | .word => .str "word" | .name => .str "name" | .number => .str "number" | .sign => .str "sign" | .wrong => .str "wrong"
def spTokAt : Sp := fun vs H Q _ => ∃ (z : Str) (i : Nat), vs = [.str z, .int i] ∧ z.length ≤ 100000 ∧ i < z.length ∧
  ∀ p, H p = none → Q (.ref p) (upd H p (.tup [kindV (tokAt tab z.cps.toList i).1, .int ((tokAt tab z.cps.toList i).2 : Nat)]))
theorem ok_token_at {f : Addr} {fd : FuncData} (F : Fun K "token_at" "token_at" s_token_at f fd) (T : Txt K mg) (TT : TokTxt K mg) {f_run_end : Addr} {d_run_end : FuncData} (c_run_end : Cal P w K mg base 1 "run_end" ["text", "at", "letters"] spRun f_run_end d_run_end) : FnOk P w K mg base CX0 2 f fd ["text", "at"] spTokAt := by
  refine F.ok sc_token_at (fun vs H Q E h => ?_) (fun cdv A outer s H vs Q E hr h => ?_)
  · obtain ⟨z, i, rfl, _⟩ := h
    rfl
  · obtain ⟨z, i, rfl, hz, hi, k⟩ := h
    have hzl := len_cps z
    obtain ⟨t1, m_LETTERS⟩ := TT.mLET
    obtain ⟨t2, m_DIGITS⟩ := TT.mDIG
    obtain ⟨t3, m_LETTERS_OF_NAMES⟩ := TT.mNAM
    obtain ⟨t4, m_SIGNS⟩ := TT.mSIG
    obtain ⟨aW, m_WORDS, hW⟩ := TT.mWOR
    obtain ⟨aL, m_LONG_SIGNS, hL⟩ := TT.mLON
    refine ⟨_, (pss_cons (ps_if (pt_cmpR op_in_sign (pe_ix ix_str (pv 0) (pv 1) (fun _ _ => rfl)) (pe_glob rfl m_LETTERS relS) (by rfl)) (pss_cons (ps_set (i := 2) sc_token_at.nd rfl (.inl rfl) (pe_call c_run_end.G (hr.mono (by decide)) (by rfl) c_run_end.m c_run_end.k c_run_end.b .nil pass0 (pa_cons (pv 0) (pa_cons (pv 1) (pa_cons (pe_glob rfl m_LETTERS_OF_NAMES relS) pa_nil)))))
      (pss_one (ps_ret (pe_tup (pa_cons (pe_ifExp (pt_cmpR op_in_seq (pe_slice sl_str (pv 0) (po_some (pv 1)) (po_some (pv 2))) (pe_glob rfl m_WORDS relR) (by rfl)) pe_str pe_str) (pa_cons (pv 2) pa_nil)))))) pss_nil)
      (pss_cons (ps_if (pt_cmpR op_in_sign (pe_ix ix_str (pv 0) (pv 1) (fun _ _ => rfl)) (pe_glob rfl m_DIGITS relS) (by rfl)) (pss_one (ps_ret (pe_tup (pa_cons pe_str (pa_cons (pe_call c_run_end.G (hr.mono (by decide)) (by rfl) c_run_end.m c_run_end.k c_run_end.b .nil pass0 (pa_cons (pv 0) (pa_cons (pv 1) (pa_cons (pe_glob rfl m_DIGITS relS) pa_nil)))) pa_nil))))) pss_nil)
      (pss_cons (ps_if (pt_cmpR op_in_seq (pe_slice sl_str (pv 0) (po_some (pv 1)) (po_some (pe_op op_add (pv 1) pe_int))) (pe_glob rfl m_LONG_SIGNS relR) (by rfl)) (pss_one (ps_ret (pe_tup (pa_cons pe_str (pa_cons (pe_op op_add (pv 1) pe_int) pa_nil))))) pss_nil)
      (pss_one (ps_ret (pe_tup (pa_cons (pe_ifExp (pt_cmpR op_in_sign (pe_ix ix_str (pv 0) (pv 1) (fun _ _ => rfl)) (pe_glob rfl m_SIGNS relS) (by rfl)) pe_str pe_str) (pa_cons (pe_op op_add (pv 1) pe_int) pa_nil)))))))), ?_⟩
    obtain ⟨c, ec⟩ : ∃ c, z.cps.toList[i]? = some c := ⟨_, List.getElem?_eq_getElem (by omega)⟩
    have hix : atI z.cps.toList (i : Int) = some c := atI_cps ec
    have e3 : tokAt tab z.cps.toList i = if isLetter c = true then
      (if tab.word ((z.cps.toList.drop i).take (run isName z.cps.toList i - i)) = true then .word else .name, run isName z.cps.toList i)
      else if isDigit c = true then (.number, run isDigit z.cps.toList i)
      else if tab.long ((z.cps.toList.drop i).take 2) = true then (.sign, i + 2)
      else (if tab.sign c = true then .sign else .wrong, i + 1) := by
      unfold tokAt
      rw [ec]
    rw [e3] at k
    refine ⟨_, rfl, _, rfl, z, _, c, rfl, rfl, sz6 hz, hix, c, zLET, rfl, rfl, _, rfl, ?_⟩
    rw [show decide (c ∈ zLET.cps.toList) = isLetter c from inS_LET c]
    refine ite2 (fun c1 => ?_) (fun c1 => ?_)
    · rw [if_pos c1] at k
      refine ⟨_, rfl, _, rfl, z, zNAM, i, rfl, hz, by omega, ?_⟩
      rw [run_congr inS_NAM]
      have hrl := run_le isName z.cps.toList (i := i) (by omega)
      have hrg := le_run isName z.cps.toList i
      refine ⟨_, rfl, _, rfl, _, rfl, _, rfl, _, rfl, z, rfl, sz6 hz, ?_⟩
      rw [cut_mid hrg (by omega)]
      refine ⟨aW, _, rfl, .inr (hW _), rfl, by decide +kernel, _, rfl, ?_⟩
      show (if tab.word ((z.cps.toList.drop i).take (run isName z.cps.toList i - i)) = true then _ else _)
      refine ite2 (fun c2 => ?_) (fun c2 => ?_)
      · rw [if_pos c2] at k
        refine ⟨_, rfl, by show 2 ≤ sizeLine; decide, fun p hp => k p hp⟩
      · rw [if_neg c2] at k
        refine ⟨_, rfl, by show 2 ≤ sizeLine; decide, fun p hp => k p hp⟩
    · rw [if_neg c1] at k
      refine ⟨_, rfl, _, rfl, z, _, c, rfl, rfl, sz6 hz, hix, c, zDIG, rfl, rfl, _, rfl, ?_⟩
      rw [show decide (c ∈ zDIG.cps.toList) = isDigit c from inS_DIG c]
      refine ite2 (fun c2 => ?_) (fun c2 => ?_)
      · rw [if_pos c2] at k
        refine ⟨_, rfl, _, rfl, z, zDIG, i, rfl, hz, by omega, ?_⟩
        rw [run_congr inS_DIG]
        exact ⟨by show 2 ≤ sizeLine; decide, fun p hp => k p hp⟩
      · rw [if_neg c2] at k
        refine ⟨_, rfl, _, rfl, _, rfl, _, rfl, _, _, rfl, rfl, _, rfl, z, rfl, sz6 hz, ?_⟩
        rw [show ((i : Int) + 2) = ((i + 2 : Nat) : Int) by omega, cut_mid' (by omega) (by omega), show i + 2 - i = 2 by omega]
        refine ⟨aL, _, rfl, .inr (hL _), rfl, by decide +kernel, _, rfl, ?_⟩
        show (if tab.long ((z.cps.toList.drop i).take 2) = true then _ else _)
        refine ite2 (fun c3 => ?_) (fun c3 => ?_)
        · rw [if_pos c3] at k
          exact ⟨_, rfl, _, _, rfl, rfl, by show 2 ≤ sizeLine; decide, fun p hp => k p hp⟩
        · rw [if_neg c3] at k
          refine ⟨_, rfl, _, rfl, z, _, c, rfl, rfl, sz6 hz, hix, c, zSIG, rfl, rfl, _, rfl, ?_⟩
          show (if tab.sign c = true then _ else _)
          refine ite2 (fun c4 => ?_) (fun c4 => ?_)
          · rw [if_pos c4] at k
            exact ⟨_, rfl, _, _, rfl, rfl, by show 2 ≤ sizeLine; decide, fun p hp => k p hp⟩
          · rw [if_neg c4] at k
            exact ⟨_, rfl, _, _, rfl, rfl, by show 2 ≤ sizeLine; decide, fun p hp => k p hp⟩
/-! ### tokens -/
/-- the tokens as data -/
def tkD (t : Tk) : List V := [kindV t.s, .int (t.a : Nat), .int (t.b : Nat)]
/-- a list at a of tuples that are these tokens -/
def TksAt (H : Hp) (a : Addr) (L : List Tk) : Prop := ∃ ps : List Addr, H a = some (.lst (ps.map V.ref)) ∧ Paired (fun p t => H p = some (.tup (tkD t))) ps L
def spTokens : Sp := fun vs H Q _ => ∃ (z : Str), vs = [.str z] ∧ z.length ≤ 90000 ∧
  ∀ a H' L, Same H H' → H a = none → TksAt H' a L → Toks tab z.cps.toList 0 L → L.length ≤ z.length + 1 → Q (.ref a) H'
theorem pa_same {H H' : Hp} (s : Same H H') : ∀ {ps : List Addr} {L : List Tk}, Paired (fun p t => H p = some (.tup (tkD t))) ps L → Paired (fun p t => H' p = some (.tup (tkD t))) ps L
  | _, _, .nil => .nil
  | _, _, .cons h r => .cons (s _ _ h) (pa_same s r)
theorem pa_off {H H' : Hp} {a : Addr} {xs : List V} (ha : H a = some (.lst xs)) (s : ∀ b o, b ≠ a → H b = some o → H' b = some o) : ∀ {ps : List Addr} {L : List Tk}, Paired (fun p t => H p = some (.tup (tkD t))) ps L → Paired (fun p t => H' p = some (.tup (tkD t))) ps L
  | _, _, .nil => .nil
  | _, _, .cons h r => .cons (s _ _ (ne_of h ha (by intro z; cases z)) h) (pa_off ha s r)
theorem pa_snoc {R : Addr → Tk → Prop} {p : Addr} {t : Tk} (h : R p t) : ∀ {ps : List Addr} {L : List Tk}, Paired R ps L → Paired R (ps ++ [p]) (L ++ [t])
  | _, _, .nil => .cons h .nil
  | _, _, .cons g r => .cons g (pa_snoc h r)
theorem ok_tokens {f : Addr} {fd : FuncData} (F : Fun K "tokens" "tokens" s_tokens f fd) (T : Txt K mg) {f_line_end : Addr} {d_line_end : FuncData} (c_line_end : Cal P w K mg base 1 "line_end" ["text", "at"] spLine f_line_end d_line_end) {f_token_at : Addr} {d_token_at : FuncData} (c_token_at : Cal P w K mg base 2 "token_at" ["text", "at"] spTokAt f_token_at d_token_at) : FnOk P w K mg base CX0 3 f fd ["text"] spTokens := by
  refine F.ok sc_tokens (fun vs H Q E h => ?_) (fun cdv A outer s H vs Q E hr h => ?_)
  · obtain ⟨z, rfl, _⟩ := h
    rfl
  · obtain ⟨z, rfl, hz', k⟩ := h
    have hz : z.length ≤ 100000 := by omega
    have hzl := len_cps z
    refine ⟨_, (pss_cons (ps_set (i := 1) sc_tokens.nd rfl (.inl rfl) (pe_lst pa_nil))
      (pss_cons (ps_set (i := 2) sc_tokens.nd rfl (.inl rfl) pe_int)
      (pss_cons (ps_while PassesOwn.never (pt_cmpR op_lt (pv 2) (pe_callB call_len_str (by rfl) T.len PySem.boot_len (pa_cons (pv 0) pa_nil)) (nomark _)) (pss_one (ps_if (pt_cmpR op_in_sign (pe_ix ix_str (pv 0) (pv 2) (fun _ _ => rfl)) pe_str (by rfl)) (pss_one (ps_aug (i := 2) sc_tokens.nd rfl (.inl rfl) pe_int ip_add)) (pss_one (ps_if (pt_cmpR op_eq (pe_ix ix_str (pv 0) (pv 2) (fun _ _ => rfl)) pe_str (nomark _)) (pss_one (ps_set (i := 2) sc_tokens.nd rfl (.inl rfl) (pe_call c_line_end.G (hr.mono (by decide)) (by rfl) c_line_end.m c_line_end.k c_line_end.b .nil pass0 (pa_cons (pv 0) (pa_cons (pv 2) pa_nil))))) (pss_cons (ps_asg (pe_call c_token_at.G (hr.mono (by decide)) (by rfl) c_token_at.m c_token_at.k c_token_at.b .nil pass0 (pa_cons (pv 0) (pa_cons (pv 2) pa_nil))) (pg_tup (by rfl) (pgs_cons (pg_name (i := 3) sc_tokens.nd rfl (.inl rfl)) (pgs_cons (pg_name (i := 4) sc_tokens.nd rfl (.inl rfl)) pgs_nil))))
      (pss_cons (ps_expr (pe_bm PySem.F.plainAttrs_list PySem.F.slot_list_append PySem.F.type_list_append mt_append (pv 1) (pa_cons (pe_tup (pa_cons (pv 3) (pa_cons (pv 2) (pa_cons (pv 4) pa_nil)))) pa_nil)))
      (pss_one (ps_set (i := 2) sc_tokens.nd rfl (.inl rfl) (pv 4))))))))))
      (pss_one (ps_ret (pv 1)))))), ?_⟩
    refine ⟨Nat.zero_le _, fun a na => ?_⟩
    refine ⟨fun m σ H' => ∃ (j : Nat) (L : List Tk) (y3 y4 : Option V), σ = [some (.str z), some (.ref a), some (.int j), y3, y4] ∧ j ≤ z.length + 1 ∧ m = z.length + 1 - j ∧ Same H H' ∧ TksAt H' a L ∧ L.length ≤ j ∧
      ∀ R, Toks tab z.cps.toList j R → Toks tab z.cps.toList 0 (L ++ R), ⟨z.length + 1, 0, [], none, none, rfl, by omega, rfl, same_upd na, ⟨[], upd_same, .nil⟩, Nat.le_refl _, fun R h => h⟩, ?_⟩
    rintro m σ H' ⟨j, L, y3, y4, rfl, hj, rfl, sm, ⟨ps, hps, hpl⟩, hL, ht⟩
    refine ⟨_, rfl, _, rfl, z, rfl, sz6 hz, _, _, rfl, rfl, _, rfl, ?_⟩
    by_cases c0 : j < z.length
    · rw [decide_eq_true (show (j : Int) < (z.length : Int) by omega)]
      refine iteT ⟨_, fun _ _ h => h, ?_⟩
      obtain ⟨c, ec⟩ : ∃ c, z.cps.toList[j]? = some c := ⟨_, List.getElem?_eq_getElem (by omega)⟩
      have hix : atI z.cps.toList (j : Int) = some c := atI_cps ec
      refine ⟨_, rfl, _, rfl, z, _, c, rfl, rfl, sz6 hz, hix, c, _, rfl, rfl, _, rfl, ?_⟩
      have e1 : decide (c ∈ (Str.ofString " \n").cps.toList) = decide (c = 32 ∨ c = 10) := decide_eq_decide.mpr (by
        show c ∈ [32, 10] ↔ _
        simp)
      rw [e1]
      by_cases c1 : c = 32 ∨ c = 10
      · rw [decide_eq_true c1]
        refine iteT ⟨_, rfl, _, _, rfl, rfl, ?_⟩
        exact ⟨z.length + 1 - (j + 1), by omega, j + 1, L, y3, y4, rfl, by omega, rfl, sm, ⟨ps, hps, hpl⟩, by omega, fun R h => ht R (.skip ec c1 h)⟩
      · rw [decide_eq_false c1]
        refine iteF ⟨_, rfl, _, rfl, z, _, c, rfl, rfl, sz6 hz, hix, rfl, _, rfl, ?_⟩
        have e2 : decide (V.str ⟨#[c]⟩ = V.str (Str.ofString "#")) = decide (c = 35) := decide_eq_decide.mpr ⟨fun q => by
          injection q with q
          injection q with q
          have q := congrArg Array.toList q
          injection q, fun q => by rw [q]; rfl⟩
        rw [e2]
        by_cases c2 : c = 35
        · rw [decide_eq_true c2]
          have g := run_le notNl z.cps.toList (i := j) (by omega)
          have g2 : j < run notNl z.cps.toList j := run_gt ec (by rw [c2]; rfl)
          refine iteT ⟨_, rfl, _, rfl, z, j, rfl, hz, by omega, ?_⟩
          exact ⟨z.length + 1 - run notNl z.cps.toList j, by omega, run notNl z.cps.toList j, L, y3, y4, rfl, by omega, rfl, sm, ⟨ps, hps, hpl⟩, by omega, fun R h => ht R (.note (by rw [← c2]; exact ec) h)⟩
        · rw [decide_eq_false c2]
          refine iteF ⟨_, rfl, _, rfl, z, j, rfl, hz, c0, fun p np => ?_⟩
          have g := tokAt_le tab z.cps.toList (i := j) (by omega)
          have g2 := tokAt_gt tab z.cps.toList j
          refine ⟨p, _, rfl, SqT.of upd_same, rfl, _, _, rfl, _, _, rfl, rfl, ?_⟩
          have nap : a ≠ p := ne_of_none hps np
          have h1 : (upd H' p (.tup [kindV (tokAt tab z.cps.toList j).1, .int ((tokAt tab z.cps.toList j).2 : Nat)])) a = some (.lst (ps.map V.ref)) := by rw [upd_ne nap]; exact hps
          have s1 : Same H' (upd H' p (.tup [kindV (tokAt tab z.cps.toList j).1, .int ((tokAt tab z.cps.toList j).2 : Nat)])) := same_upd np
          refine ⟨_, rfl, .inl ⟨rfl, _, SqL.of h1⟩, _, rfl, _, rfl, _, rfl, by show 3 ≤ sizeLine; decide, fun q nq => ?_⟩
          have naq : a ≠ q := ne_of_none h1 nq
          have h2 := (upd_ne naq (H := upd H' p (.tup [kindV (tokAt tab z.cps.toList j).1, .int ((tokAt tab z.cps.toList j).2 : Nat)])) (o := .tup (tkD ⟨(tokAt tab z.cps.toList j).1, j, (tokAt tab z.cps.toList j).2⟩))).trans h1
          refine ⟨a, _, _, rfl, rfl, h2, ?_, ?_⟩
          · rw [List.length_map, hpl.length]
            exact sz6' (by omega)
          · refine ⟨_, rfl, ?_⟩
            refine ⟨z.length + 1 - (tokAt tab z.cps.toList j).2, by omega, (tokAt tab z.cps.toList j).2, L ++ [⟨(tokAt tab z.cps.toList j).1, j, (tokAt tab z.cps.toList j).2⟩], _, _, rfl, by omega, rfl, ?_, ⟨ps ++ [q], ?_, ?_⟩, ?_, ?_⟩
            · intro b o e
              rw [upd_ne (ne_of_none e na)]
              exact same_upd nq _ _ (s1 _ _ (sm _ _ e))
            · rw [upd_same, List.map_append]
              rfl
            · refine pa_snoc ?_ (pa_off h2 (fun b o hb e => by rw [upd_ne hb]; exact e) (pa_same (same_upd nq) (pa_same s1 hpl)))
              show upd _ a _ q = _
              rw [upd_ne naq.symm, upd_same]
              rfl
            · rw [List.length_append]
              show L.length + 1 ≤ _
              omega
            · intro R h
              rw [List.append_assoc]
              exact ht _ (.tok ec c1 c2 h)
    · rw [decide_eq_false (show ¬ (j : Int) < (z.length : Int) by omega)]
      refine iteF ⟨_, rfl, k a H' L sm na ⟨ps, hps, hpl⟩ ?_ (by omega)⟩
      have q := ht [] (.done (by omega))
      rw [List.append_nil] at q
      exact q
end
end OS

namespace OS
open PySem PySem.Spec PyProof.Rows L2
/-! ### methods, errors -/
structure MCal (P : Program) (w : World) (K : PySem.W.Frag) (mg : Str → Option Value) (base : Heap) (C : Addr) (k : Nat) (x : Str) (ps : List Str) (sp : Sp) (f : Addr) (fd : FuncData) : Prop where
  G : FnOk P w K mg base CX0 k f fd ps sp
  b : Binds K fd ps []
  m : Meth K C x f
structure MCalX (P : Program) (w : World) (K : PySem.W.Frag) (mg : Str → Option Value) (base : Heap) (C : Addr) (k : Nat) (x : Str) (ps : List Str) (sp : Sp) (f : Addr) (fd : FuncData) : Prop where
  G : FnOk P w K mg base (L2.CX P w) k f fd ps sp
  b : Binds K fd ps []
  m : Meth K C x f
structure CalX (P : Program) (w : World) (K : PySem.W.Frag) (mg : Str → Option Value) (base : Heap) (k : Nat) (x : Str) (ps : List Str) (sp : Sp) (f : Addr) (fd : FuncData) : Prop where
  G : FnOk P w K mg base (L2.CX P w) k f fd ps sp
  b : Binds K fd ps []
  k : PySem.W.keepIn K (.ref f) = true
  m : mg x = some (.ref f)
/-- an own error with one field -/
structure OCal (P : Program) (w : World) (K : PySem.W.Frag) (mg : Str → Option Value) (base : Heap) (C : Addr) (x fld : Str) (f : Addr) (fd : FuncData) : Prop where
  T : OexC K C
  iC : PySem.W.findIn K (.ref C) "__init__" = some (some (.ref f))
  tI : PySem.W.typeIn K (.ref f) = some (.type "function")
  G : FnOk P w K mg base CX0 1 f fd ["self", fld] (spExcI C fld)
  b : Binds K fd ["self", fld] []
  m : mg x = some (.ref C)
theorem passE {X : Cx} {E : XK} (tk : Takes X (fun cls d _ H => E cls d H)) : Passes (L2.CX X.prog X.w) X E := passes_call tk fun _ _ _ _ h => h
/-- the field of an error that is read -/
def xdF (H : Hp) (d : Option Addr) (fld : Str) (v : V) : Prop := ∃ a, d = some a ∧ H a = some (.xd [(fld, v)])
/-- what the making of such an error asks: that what follows holds of it -/
theorem mk_exc {C : Addr} {fld : Str} {v : V} {H : Hp} {Q : XK} (hq : ∀ (d : Addr) (H' : Hp), Same H H' → H d = none → xdF H' (some d) fld v → Q (.ref C) (some d) H') :
    [v].length ≤ 1000 ∧ ∀ a, H a = none → spExcI C fld (.ref a :: ([v] ++ [])) (upd H a (exo a C none)) (fun u H2 => u = .non ∧ ∃ (d : Addr) (fs : List (Str × V)), H2 a = some (exo a C (some d)) ∧ H2 d = some (exd d fs) ∧ H d = none ∧ Q (.ref C) (some d) (upd (del H2 a) d (.xd fs))) (fun _ _ _ => False) := by
  refine ⟨by show 1 ≤ 1000; decide, fun a ha => ⟨a, v, rfl, upd_same, fun dx hdx hne => ⟨rfl, dx, [(fld, v)], upd_same, ?_, ?_, ?_⟩⟩⟩
  · rw [upd_ne hne]
    exact upd_same
  · rw [upd_ne hne] at hdx
    exact hdx
  · rw [upd_ne hne] at hdx
    refine hq dx _ (fun b o e => ?_) hdx ⟨dx, rfl, upd_same⟩
    rw [upd_ne (ne_of_none e hdx), del_ne (ne_of_none e ha), upd_ne (ne_of_none e ha), upd_ne (ne_of_none e hdx), upd_ne (ne_of_none e ha)]
    exact e
/-! ### the reader's object -/
def rdF (z : Str) (tl : Addr) (i : Nat) : List (Str × V) := [("text", .str z), ("tokens", .ref tl), ("at", .int i)]
section
variable {z : Str} {tl : Addr} {i j : Nat}
theorem rn1 : (("tokens" : Str) == "text") = false := by decide +kernel
theorem rn2 : (("at" : Str) == "text") = false := by decide +kernel
theorem rn3 : (("at" : Str) == "tokens") = false := by decide +kernel
theorem rm1 : ¬ ("text" : Str) = "at" := by decide +kernel
theorem rm2 : ¬ ("tokens" : Str) = "at" := by decide +kernel
theorem rd_text : (rdF z tl i).lookup ("text" : Str) = some (.str z) := by unfold rdF; rw [List.lookup_cons, beq_self_eq_true]
theorem rd_tokens : (rdF z tl i).lookup ("tokens" : Str) = some (.ref tl) := by unfold rdF; rw [List.lookup_cons, rn1, List.lookup_cons, beq_self_eq_true]
theorem rd_at : (rdF z tl i).lookup ("at" : Str) = some (.int i) := by unfold rdF; rw [List.lookup_cons, rn2, List.lookup_cons, rn3, List.lookup_cons, beq_self_eq_true]
theorem rd_no {m : Str} (h1 : (m == ("text" : Str)) = false) (h2 : (m == ("tokens" : Str)) = false) (h3 : (m == ("at" : Str)) = false) : (rdF z tl i).lookup m = none := by
  unfold rdF
  rw [List.lookup_cons, h1, List.lookup_cons, h2, List.lookup_cons, h3]
  rfl
theorem rd_put : putF "at" (.int j) (rdF z tl i) = rdF z tl j := by
  show (if ("text" : Str) = "at" then _ else (("text" : Str), V.str z) :: (if ("tokens" : Str) = "at" then _ else (("tokens" : Str), V.ref tl) :: (if ("at" : Str) = "at" then [(("at" : Str), V.int j)] else _))) = _
  rw [if_neg rm1, if_neg rm2, if_pos rfl]
  rfl
end
/-- the word of a token -/
def wordOf (z : Str) (t : Tk) : Str := cutS z (some ((t.a : Nat) : Int)) (some ((t.b : Nat) : Int))
def kindS : Srt → Str
  | .word => "word" | .name => "name" | .number => "number" | .sign => "sign" | .wrong => "wrong"
theorem kindV_eq (s : Srt) : kindV s = .str (kindS s) := by cases s <;> rfl
def toks2 (z : Str) (L : List Tk) : List Tok2 := L.map fun t => (kindS t.s, wordOf z t)
/-- a reader at r stands ahead of token i -/
structure RdAt (C r tl : Addr) (z : Str) (L : List Tk) (H : Hp) (i : Nat) : Prop where
  ob : ∃ dx, H r = some (.ins C dx (rdF z tl i))
  tk : TksAt H tl L
/-- the place at which it fails there -/
def placeAt (L : List Tk) (i : Nat) : Int := match L[i]? with | some t => ((t.a : Nat) : Int) | none => match L.getLast? with | some t => ((t.b : Nat) : Int) | none => 0
theorem RdAt.keep {C r tl : Addr} {z : Str} {L : List Tk} {H H' : Hp} {i : Nat} (s : Same H H') (h : RdAt C r tl z L H i) : RdAt C r tl z L H' i := by
  obtain ⟨⟨dx, h1⟩, ps, h2, h3⟩ := h
  exact ⟨⟨dx, s _ _ h1⟩, ps, s _ _ h2, pa_same s h3⟩
structure RdTxt (K : PySem.W.Frag) (C : Addr) : Prop where
  cl : Cls K C
  nT : NoAttr K C "text"
  nK : NoAttr K C "tokens"
  nA : NoAttr K C "at"
theorem nw_of {z : Str} {L : List Tk} {i : Nat} {t : Tk} (h : L[i]? = some t) : nw (toks2 z L) i = wordOf z t := by
  unfold nw toks2
  rw [List.getElem?_map, h]
  rfl
theorem ns_of {z : Str} {L : List Tk} {i : Nat} {t : Tk} (h : L[i]? = some t) : ns (toks2 z L) i = kindS t.s := by
  unfold ns toks2
  rw [List.getElem?_map, h]
  rfl
theorem nw_end {z : Str} {L : List Tk} {i : Nat} (h : L.length ≤ i) : nw (toks2 z L) i = "" := by
  unfold nw toks2
  rw [List.getElem?_map, List.getElem?_eq_none h]
  rfl
theorem ns_end {z : Str} {L : List Tk} {i : Nat} (h : L.length ≤ i) : ns (toks2 z L) i = "" := by
  unfold ns toks2
  rw [List.getElem?_map, List.getElem?_eq_none h]
  rfl
section
variable {P : Program} {w : World} {K : PySem.W.Frag} {mg : Str → Option Value} {base : Heap} {C CS : Addr}
def spMore (C : Addr) : Sp := fun vs H Q _ => ∃ (r tl : Addr) (z : Str) (L : List Tk) (i : Nat), vs = [.ref r] ∧ RdAt C r tl z L H i ∧ Q (.bl (decide (i < L.length))) H
theorem ok_has_more {f : Addr} {fd : FuncData} (F : Fun K "has_more" "Reader.has_more" s_Reader_has_more f fd) (T : Txt K mg) (CR : RdTxt K C) : FnOk P w K mg base CX0 1 f fd ["self"] (spMore C) := by
  refine F.ok sc_Reader_has_more (fun vs H Q E h => ?_) (fun cdv A outer s H vs Q E hr h => ?_)
  · obtain ⟨r, tl, z, L, i, rfl, _⟩ := h
    rfl
  · obtain ⟨r, tl, z, L, i, rfl, hR, k⟩ := h
    obtain ⟨⟨dx, h1⟩, ps, h2, h3⟩ := id hR
    refine ⟨_, (pss_one (ps_ret (pe_cmpR op_lt (pe_fld (pv 0) rfl) (pe_callB call_len_seq (by rfl) T.len PySem.boot_len (pa_cons (pe_fld (pv 0) rfl) pa_nil)) (nomark _)))), ?_⟩
    refine ⟨_, rfl, r, C, dx, _, _, rfl, h1, CR.cl, CR.nA, rd_at, _, rfl, r, C, dx, _, _, rfl, h1, CR.cl, CR.nK, rd_tokens, tl, _, rfl, .inl (SqL.of h2), _, _, rfl, rfl, ?_⟩
    rw [List.length_map, h3.length]
    show Q (.bl (decide ((i : Int) < ((L.length : Nat) : Int)))) H
    rw [show decide ((i : Int) < ((L.length : Nat) : Int)) = decide (i < L.length) from decide_eq_decide.mpr (by omega)]
    exact k
/-- tokens that lie in the text -/
structure TkIn (z : Str) (L : List Tk) : Prop where
  len : z.length ≤ 100000
  few : L.length ≤ 90000
  dig : ∀ t ∈ L, t.s = .number → ∀ c ∈ (wordOf z t).cps.toList, isDigit c = true
def spNw (C : Addr) : Sp := fun vs H Q _ => ∃ (r tl : Addr) (z : Str) (L : List Tk) (i : Nat), vs = [.ref r] ∧ RdAt C r tl z L H i ∧ TkIn z L ∧ Q (.str (nw (toks2 z L) i)) H
theorem pa_get {R : Addr → Tk → Prop} : ∀ {ps : List Addr} {L : List Tk} {i : Nat} {t : Tk}, Paired R ps L → L[i]? = some t → ∃ p, ps[i]? = some p ∧ R p t
  | _, _, _, _, .nil, e => by simp at e
  | _, _, 0, _, .cons h r, e => ⟨_, rfl, by simp at e; subst e; exact h⟩
  | _, _, i + 1, _, .cons h r, e => pa_get (i := i) r (by simpa using e)
theorem ok_next_word {f : Addr} {fd : FuncData} (F : Fun K "next_word" "Reader.next_word" s_Reader_next_word f fd) (T : Txt K mg) (CR : RdTxt K C) {f_Reader_has_more : Addr} {d_Reader_has_more : FuncData} (c_Reader_has_more : MCal P w K mg base C 1 "has_more" ["self"] (spMore C) f_Reader_has_more d_Reader_has_more) : FnOk P w K mg base CX0 2 f fd ["self"] (spNw C) := by
  refine F.ok sc_Reader_next_word (fun vs H Q E h => ?_) (fun cdv A outer s H vs Q E hr h => ?_)
  · obtain ⟨r, tl, z, L, i, rfl, _⟩ := h
    rfl
  · obtain ⟨r, tl, z, L, i, rfl, hR, hz, k⟩ := h
    obtain ⟨⟨dx, h1⟩, ps, h2, h3⟩ := id hR
    refine ⟨_, (pss_cons (ps_if (pt_not (pt_val (pe_meth0 (pv 0) CR.cl c_Reader_has_more.m c_Reader_has_more.G (hr.mono (by decide)) c_Reader_has_more.b .nil pass0))) (pss_one (ps_ret pe_str)) pss_nil)
      (pss_cons (ps_asg (pe_ix ix_list (pe_fld (pv 0) rfl) (pe_fld (pv 0) rfl) (fun _ _ => rfl)) (pg_tup (by rfl) (pgs_cons (pg_name (i := 1) sc_Reader_next_word.nd rfl (.inl rfl)) (pgs_cons (pg_name (i := 2) sc_Reader_next_word.nd rfl (.inl rfl)) (pgs_cons (pg_name (i := 3) sc_Reader_next_word.nd rfl (.inl rfl)) pgs_nil)))))
      (pss_one (ps_ret (pe_slice sl_str (pe_fld (pv 0) rfl) (po_some (pv 2)) (po_some (pv 3))))))), ?_⟩
    refine ⟨_, rfl, r, dx, _, rfl, h1, rd_no (by decide +kernel) (by decide +kernel) (by decide +kernel), r, tl, z, L, i, rfl, hR, _, rfl, ?_⟩
    by_cases hi : i < L.length
    · rw [decide_eq_true hi]
      refine iteF ?_
      have hl := List.getElem?_eq_getElem hi
      obtain ⟨p, ep, hp⟩ := pa_get h3 hl
      have g : (ps.map V.ref)[i]? = some (.ref p) := by rw [List.getElem?_map, ep]; rfl
      rw [nw_of hl] at k
      refine ⟨_, rfl, r, C, dx, _, _, rfl, h1, CR.cl, CR.nK, rd_tokens, _, rfl, r, C, dx, _, _, rfl, h1, CR.cl, CR.nA, rd_at, tl, _, _, _, rfl, rfl, SqL.of h2, atI_nat g, ?_⟩
      refine ⟨p, _, rfl, SqT.of hp, rfl, _, _, rfl, _, _, rfl, _, _, rfl, rfl, ?_⟩
      exact ⟨_, rfl, r, C, dx, _, _, rfl, h1, CR.cl, CR.nT, rd_text, _, rfl, _, rfl, _, rfl, _, rfl, z, rfl, sz6 hz.len, k⟩
    · rw [decide_eq_false hi]
      rw [nw_end (by omega)] at k
      exact iteT k
def spNs (C : Addr) : Sp := fun vs H Q _ => ∃ (r tl : Addr) (z : Str) (L : List Tk) (i : Nat), vs = [.ref r] ∧ RdAt C r tl z L H i ∧ Q (.str (ns (toks2 z L) i)) H
theorem ok_next_sort {f : Addr} {fd : FuncData} (F : Fun K "next_sort" "Reader.next_sort" s_Reader_next_sort f fd) (T : Txt K mg) (CR : RdTxt K C) {f_Reader_has_more : Addr} {d_Reader_has_more : FuncData} (c_Reader_has_more : MCal P w K mg base C 1 "has_more" ["self"] (spMore C) f_Reader_has_more d_Reader_has_more) : FnOk P w K mg base CX0 2 f fd ["self"] (spNs C) := by
  refine F.ok sc_Reader_next_sort (fun vs H Q E h => ?_) (fun cdv A outer s H vs Q E hr h => ?_)
  · obtain ⟨r, tl, z, L, i, rfl, _⟩ := h
    rfl
  · obtain ⟨r, tl, z, L, i, rfl, hR, k⟩ := h
    obtain ⟨⟨dx, h1⟩, ps, h2, h3⟩ := id hR
    refine ⟨_, (pss_one (ps_ret (pe_ifExp (pt_val (pe_meth0 (pv 0) CR.cl c_Reader_has_more.m c_Reader_has_more.G (hr.mono (by decide)) c_Reader_has_more.b .nil pass0)) (pe_ix ix_tup (pe_ix ix_list (pe_fld (pv 0) rfl) (pe_fld (pv 0) rfl) (fun _ _ => rfl)) pe_int (fun _ _ => rfl)) pe_str))), ?_⟩
    refine ⟨_, rfl, r, dx, _, rfl, h1, rd_no (by decide +kernel) (by decide +kernel) (by decide +kernel), r, tl, z, L, i, rfl, hR, _, rfl, ?_⟩
    by_cases hi : i < L.length
    · rw [decide_eq_true hi]
      refine iteT ?_
      have hl := List.getElem?_eq_getElem hi
      obtain ⟨p, ep, hp⟩ := pa_get h3 hl
      have g : (ps.map V.ref)[i]? = some (.ref p) := by rw [List.getElem?_map, ep]; rfl
      rw [ns_of hl, ← kindV_eq] at k
      exact ⟨_, rfl, r, C, dx, _, _, rfl, h1, CR.cl, CR.nK, rd_tokens, _, rfl, r, C, dx, _, _, rfl, h1, CR.cl, CR.nA, rd_at, tl, _, _, _, rfl, rfl, SqL.of h2, atI_nat g, p, _, _, _, rfl, rfl, SqT.of hp, atI_nat (j := 0) rfl, k⟩
    · rw [decide_eq_false hi]
      rw [ns_end (by omega)] at k
      exact iteF k
end
end OS

namespace OS
open PySem PySem.Spec PyProof.Rows L2
theorem digit_int {c : Nat} (h : isDigit c = true) : PySem.intText? ⟨#[c]⟩ = some ((c : Int) - 48) := by
  unfold isDigit at h
  simp only [Bool.and_eq_true, decide_eq_true_eq] at h
  have q : c = 48 ∨ c = 49 ∨ c = 50 ∨ c = 51 ∨ c = 52 ∨ c = 53 ∨ c = 54 ∨ c = 55 ∨ c = 56 ∨ c = 57 := by omega
  rcases q with rfl | rfl | rfl | rfl | rfl | rfl | rfl | rfl | rfl | rfl <;> decide +kernel
theorem RdAt.at_ {C r tl : Addr} {z : Str} {L : List Tk} {H : Hp} {i j : Nat} (h : RdAt C r tl z L H i) {dx : Addr} (hd : H r = some (.ins C dx (rdF z tl i))) : RdAt C r tl z L (upd H r (.ins C dx (rdF z tl j))) j := by
  obtain ⟨_, ps, h2, h3⟩ := h
  have ne : tl ≠ r := ne_of h2 hd (by intro q; cases q)
  refine ⟨⟨dx, upd_same⟩, ps, by rw [upd_ne ne]; exact h2, ?_⟩
  have : ∀ {ps : List Addr} {L : List Tk}, Paired (fun p t => H p = some (.tup (tkD t))) ps L → Paired (fun p t => upd H r (.ins C dx (rdF z tl j)) p = some (.tup (tkD t))) ps L := fun {ps L} q => by
    induction q with
    | nil => exact .nil
    | cons h _ ih => exact .cons (by rw [upd_ne (ne_of h hd (by intro q; cases q))]; exact h) ih
  exact this h3
theorem RdAt.put {C r tl a : Addr} {z : Str} {L : List Tk} {H : Hp} {i : Nat} {xs ys : List V} (h : RdAt C r tl z L H i) (ar : a ≠ r) (hl : H a = some (.lst xs)) (hal : a ≠ tl) : RdAt C r tl z L (upd H a (.lst ys)) i := by
  obtain ⟨⟨dx, h1⟩, ps, h2, h3⟩ := h
  exact ⟨⟨dx, by rw [upd_ne ar.symm]; exact h1⟩, ps, by rw [upd_ne hal.symm]; exact h2, pa_off hl (fun b o hb e => by rw [upd_ne hb]; exact e) h3⟩
/-- what a reading of m from token i on is wished to do -/
def Wish (K : PySem.W.Frag) (C CS r tl : Addr) (z : Str) (L : List Tk) (H : Hp) (Q : VK) (E : XK) {α : Type} (m : Nat → Rd α) (i : Nat) (dt : α → Dt) : Prop :=
  (∀ v a j H', Evn m (toks2 z L) i (.ok a j) → i < j → j ≤ L.length → At K H' (dt a) v → RdAt C r tl z L H' j → Kept r H H' → Q v H') ∧
  (∀ j d H', Evn m (toks2 z L) i (.bad j) → j ≤ L.length → Kept r H H' → xdF H' (some d) "start" (.int (placeAt L j)) → E (.ref CS) (some d) H')
section
variable {P : Program} {w : World} {K : PySem.W.Frag} {mg : Str → Option Value} {base : Heap} {C CS f_err : Addr} {d_err : FuncData}
def spNum : Sp := fun vs H Q _ => ∃ x : Str, vs = [.str x] ∧ x.length ≤ 100000 ∧ (∀ c ∈ x.cps.toList, isDigit c = true) ∧ Q (.int (numVal x)) H
theorem ok_number_value {f : Addr} {fd : FuncData} (F : Fun K "number_value" "number_value" s_number_value f fd) (T : Txt K mg) (hM : ∃ t, mg "MODULUS" = some (.int 4294967296 t)) : FnOk P w K mg base CX0 1 f fd ["digits"] spNum := by
  refine F.ok sc_number_value (fun vs H Q E h => ?_) (fun cdv A outer s H vs Q E hr h => ?_)
  · obtain ⟨x, rfl, _⟩ := h
    rfl
  · obtain ⟨x, rfl, hx, hd, k⟩ := h
    obtain ⟨tM, m_MODULUS⟩ := hM
    refine ⟨_, (pss_cons (ps_set (i := 1) sc_number_value.nd rfl (.inl rfl) pe_int)
      (pss_cons (ps_for PassesOwn.never rfl (pi_str (pv 0)) (pg_name (i := 2) sc_number_value.nd rfl (.inl rfl)) (pss_one (ps_set (i := 1) sc_number_value.nd rfl (.inl rfl) (pe_op op_modN (pe_op op_add (pe_op op_mul (pv 1) pe_int) (pe_callTy call_int_str (by rfl) T.int (by decide +kernel) (pa_cons (pv 2) pa_nil))) (pe_glob rfl m_MODULUS relI)))))
      (pss_one (ps_ret (pv 1))))), ?_⟩
    refine ⟨_, rfl, x, rfl, for_str (fun i σ H' => ∃ y, σ = [some (.str x), some (.int ((x.cps.toList.take i).foldl (fun (n : Int) (c : Nat) => (n * 10 + ((c : Int) - 48)).fmod 4294967296) 0)), y] ∧ H' = H) ⟨none, rfl, rfl⟩ ?_ ?_⟩
    · rintro i c σ H' hi ⟨y, rfl, rfl⟩
      refine ⟨_, rfl, _, _, rfl, rfl, .inr ⟨by decide, by decide⟩, ?_⟩
      refine ⟨_, rfl, ⟨#[c]⟩, _, rfl, digit_int (hd c (List.mem_of_getElem? hi)), (by show 1 ≤ 640; decide), _, _, rfl, rfl, _, _, rfl, rfl, (by show (4294967296 : Int) ≠ 0; decide), ?_⟩
      refine ⟨some (.str ⟨#[c]⟩), ?_, rfl⟩
      rw [List.take_add_one, hi, Option.toList_some, List.foldl_append, List.foldl_cons, List.foldl_nil]
      rfl
    · rintro σ H' ⟨y, rfl, rfl⟩
      rw [List.take_length]
      exact ⟨_, rfl, k⟩
def spFail (C CS : Addr) : Sp := fun vs H _ E => ∃ (r tl : Addr) (z : Str) (L : List Tk) (i : Nat), vs = [.ref r] ∧ RdAt C r tl z L H i ∧ TkIn z L ∧
  ∀ d H', Kept r H H' → xdF H' (some d) "start" (.int (placeAt L i)) → E (.ref CS) (some d) H'
theorem ok_fail {f : Addr} {fd : FuncData} (F : Fun K "fail" "Reader.fail" s_Reader_fail f fd) (T : Txt K mg) (CR : RdTxt K C) (O_SyntaxProblem : OCal P w K mg base CS "SyntaxProblem" "start" f_err d_err) {f_Reader_has_more : Addr} {d_Reader_has_more : FuncData} (c_Reader_has_more : MCal P w K mg base C 1 "has_more" ["self"] (spMore C) f_Reader_has_more d_Reader_has_more) : FnOk P w K mg base (L2.CX P w) 3 f fd ["self"] (spFail C CS) := by
  refine F.okX sc_Reader_fail (fun vs H Q E h => ?_) (fun cdv A outer s H vs Q E hr h => ?_)
  · obtain ⟨r, tl, z, L, i, rfl, _⟩ := h
    rfl
  · obtain ⟨r, tl, z, L, i, rfl, hR, hz, e⟩ := h
    obtain ⟨⟨dx, h1⟩, ps, h2, h3⟩ := id hR
    refine ⟨_, (pss_cons (ps_if (pt_val (pe_meth0 (pv 0) CR.cl c_Reader_has_more.m c_Reader_has_more.G (hr.mono (by decide)) c_Reader_has_more.b .nil pass0)) (pss_one (ps_raise rfl (takes_of rfl rfl rfl rfl) (pmk_oex O_SyntaxProblem.T O_SyntaxProblem.iC O_SyntaxProblem.tI O_SyntaxProblem.G (hr.mono (by decide)) O_SyntaxProblem.b .nil pass0 (by rfl) O_SyntaxProblem.m (pa_cons (pe_ix ix_tup (pe_ix ix_list (pe_fld (pv 0) rfl) (pe_fld (pv 0) rfl) (fun _ _ => rfl)) pe_int (fun _ _ => rfl)) pa_nil)))) pss_nil)
      (pss_one (ps_raise rfl (takes_of rfl rfl rfl rfl) (pmk_oex O_SyntaxProblem.T O_SyntaxProblem.iC O_SyntaxProblem.tI O_SyntaxProblem.G (hr.mono (by decide)) O_SyntaxProblem.b .nil pass0 (by rfl) O_SyntaxProblem.m (pa_cons (pe_ifExp (pt_truth (pe_fld (pv 0) rfl) (by intro _; rfl)) (pe_ix ix_tup (pe_ix ix_list (pe_fld (pv 0) rfl) (pe_un un_neg pe_int) (fun _ _ => rfl)) pe_int (fun _ _ => rfl)) pe_int) pa_nil))))), ?_⟩
    refine ⟨_, rfl, r, dx, _, rfl, h1, rd_no (by decide +kernel) (by decide +kernel) (by decide +kernel), r, tl, z, L, i, rfl, hR, _, rfl, ?_⟩
    unfold placeAt at e
    by_cases hi : i < L.length
    · rw [decide_eq_true hi]
      refine iteT ?_
      have hl := List.getElem?_eq_getElem hi
      obtain ⟨p, ep, hp⟩ := pa_get h3 hl
      have g : (ps.map V.ref)[i]? = some (.ref p) := by rw [List.getElem?_map, ep]; rfl
      rw [hl] at e
      refine ⟨_, rfl, r, C, dx, _, _, rfl, h1, CR.cl, CR.nK, rd_tokens, _, rfl, r, C, dx, _, _, rfl, h1, CR.cl, CR.nA, rd_at, tl, _, _, _, rfl, rfl, SqL.of h2, atI_nat g, p, _, _, _, rfl, rfl, SqT.of hp, atI_nat (j := 1) rfl, ?_⟩
      exact mk_exc fun d H' s0 hd hx => e d H' (Kept.of s0) hx
    · rw [decide_eq_false hi]
      refine iteF ?_
      rw [List.getElem?_eq_none (by omega)] at e
      refine ⟨_, rfl, r, C, dx, _, _, rfl, h1, CR.cl, CR.nK, rd_tokens, !(ps.map V.ref).isEmpty, .inl ⟨_, SqL.of h2, rfl⟩, ?_⟩
      cases L with
      | nil =>
        cases h3
        exact iteF (mk_exc fun d H' s0 hd hx => e d H' (Kept.of s0) hx)
      | cons t L' =>
        have hne : ps ≠ [] := by
          have := h3.length
          intro q
          rw [q] at this
          cases this
        have hl : (t :: L')[(t :: L').length - 1]? = some ((t :: L').getLast (List.cons_ne_nil _ _)) := by
          rw [← List.getLast?_eq_getElem?, List.getLast?_eq_some_getLast (List.cons_ne_nil _ _)]
        obtain ⟨p, ep, hp⟩ := pa_get h3 hl
        have gl : atI (ps.map V.ref) (-1) = some (.ref p) := by
          have e1 : ps.getLast? = some p := by
            rw [List.getLast?_eq_getElem?, h3.length]
            exact ep
          obtain ⟨ys, e2⟩ := List.getLast?_eq_some_iff.mp e1
          rw [e2, List.map_append]
          exact atI_last _ _
        rw [List.getLast?_eq_some_getLast (List.cons_ne_nil _ _)] at e
        rw [show (!(ps.map V.ref).isEmpty) = true by cases ps with | nil => exact absurd rfl hne | cons a b => rfl]
        refine iteT ⟨_, rfl, r, C, dx, _, _, rfl, h1, CR.cl, CR.nK, rd_tokens, 1, rfl, tl, _, _, _, rfl, rfl, SqL.of h2, gl, p, _, _, _, rfl, rfl, SqT.of hp, atI_nat (j := 2) rfl, ?_⟩
        exact mk_exc fun d H' s0 hd hx => e d H' (Kept.of s0) hx
def spTk (C CS : Addr) : Sp := fun vs H Q E => ∃ (r tl : Addr) (z : Str) (L : List Tk) (i : Nat) (x : Str), vs = [.ref r, .str x] ∧ RdAt C r tl z L H i ∧ TkIn z L ∧
  (nw (toks2 z L) i = x → ∀ H', RdAt C r tl z L H' (i + 1) → Kept r H H' → Q .non H') ∧
  (¬ nw (toks2 z L) i = x → ∀ d H', Kept r H H' → xdF H' (some d) "start" (.int (placeAt L i)) → E (.ref CS) (some d) H')
theorem str_dec (a b : Str) : decide (V.str a = V.str b) = decide (a = b) := decide_eq_decide.mpr ⟨fun q => by injection q, fun q => by rw [q]⟩
theorem ok_take {f : Addr} {fd : FuncData} (F : Fun K "take" "Reader.take" s_Reader_take f fd) (T : Txt K mg) (CR : RdTxt K C) {f_Reader_next_word : Addr} {d_Reader_next_word : FuncData} (c_Reader_next_word : MCal P w K mg base C 2 "next_word" ["self"] (spNw C) f_Reader_next_word d_Reader_next_word) {f_Reader_fail : Addr} {d_Reader_fail : FuncData} (c_Reader_fail : MCalX P w K mg base C 3 "fail" ["self"] (spFail C CS) f_Reader_fail d_Reader_fail) : FnOk P w K mg base (L2.CX P w) 4 f fd ["self", "word"] (spTk C CS) := by
  refine F.okX sc_Reader_take (fun vs H Q E h => ?_) (fun cdv A outer s H vs Q E hr h => ?_)
  · obtain ⟨r, tl, z, L, i, x, rfl, _⟩ := h
    rfl
  · obtain ⟨r, tl, z, L, i, x, rfl, hR, hz, k1, k2⟩ := h
    obtain ⟨⟨dx, h1⟩, ps, h2, h3⟩ := id hR
    refine ⟨_, (pss_cons (ps_if (pt_cmpR op_ne (pe_meth0 (pv 0) CR.cl c_Reader_next_word.m c_Reader_next_word.G (hr.mono (by decide)) c_Reader_next_word.b .nil pass0) (pv 1) (nomark _)) (pss_one (ps_expr (pe_meth0 (pv 0) CR.cl c_Reader_fail.m c_Reader_fail.G (hr.mono (by decide)) c_Reader_fail.b .nil (passE (takes_of rfl rfl rfl rfl))))) pss_nil)
      (pss_one (ps_fldaug (pv 0) pe_int in_add))), ?_⟩
    refine ⟨_, rfl, r, dx, _, rfl, h1, rd_no (by decide +kernel) (by decide +kernel) (by decide +kernel), r, tl, z, L, i, rfl, hR, hz, _, rfl, rfl, _, rfl, ?_⟩
    rw [str_dec]
    by_cases c : nw (toks2 z L) i = x
    · rw [decide_eq_true c]
      refine iteF ?_
      refine ⟨_, rfl, r, C, dx, _, _, rfl, h1, CR.cl, CR.nA, rd_at, _, _, rfl, rfl, dx, _, h1, by show 3 < 1000; decide, ?_⟩
      rw [show ((i : Int) + 1) = ((i + 1 : Nat) : Int) from rfl, rd_put]
      exact k1 c _ (hR.at_ h1) fun b o hb e => by rw [upd_ne hb]; exact e
    · rw [decide_eq_false c]
      refine iteT ?_
      exact ⟨_, rfl, r, dx, _, rfl, h1, rd_no (by decide +kernel) (by decide +kernel) (by decide +kernel), r, tl, z, L, i, rfl, hR, hz, k2 c⟩
def spTs (C CS : Addr) : Sp := fun vs H Q E => ∃ (r tl : Addr) (z : Str) (L : List Tk) (i : Nat) (x : Str), vs = [.ref r, .str x] ∧ RdAt C r tl z L H i ∧ TkIn z L ∧
  (ns (toks2 z L) i = x → ∀ H', RdAt C r tl z L H' (i + 1) → Kept r H H' → Q (.str (nw (toks2 z L) i)) H') ∧
  (¬ ns (toks2 z L) i = x → ∀ d H', Kept r H H' → xdF H' (some d) "start" (.int (placeAt L i)) → E (.ref CS) (some d) H')
theorem ok_take_sort {f : Addr} {fd : FuncData} (F : Fun K "take_sort" "Reader.take_sort" s_Reader_take_sort f fd) (T : Txt K mg) (CR : RdTxt K C) {f_Reader_next_word : Addr} {d_Reader_next_word : FuncData} (c_Reader_next_word : MCal P w K mg base C 2 "next_word" ["self"] (spNw C) f_Reader_next_word d_Reader_next_word) {f_Reader_next_sort : Addr} {d_Reader_next_sort : FuncData} (c_Reader_next_sort : MCal P w K mg base C 2 "next_sort" ["self"] (spNs C) f_Reader_next_sort d_Reader_next_sort) {f_Reader_fail : Addr} {d_Reader_fail : FuncData} (c_Reader_fail : MCalX P w K mg base C 3 "fail" ["self"] (spFail C CS) f_Reader_fail d_Reader_fail) : FnOk P w K mg base (L2.CX P w) 4 f fd ["self", "sort"] (spTs C CS) := by
  refine F.okX sc_Reader_take_sort (fun vs H Q E h => ?_) (fun cdv A outer s H vs Q E hr h => ?_)
  · obtain ⟨r, tl, z, L, i, x, rfl, _⟩ := h
    rfl
  · obtain ⟨r, tl, z, L, i, x, rfl, hR, hz, k1, k2⟩ := h
    obtain ⟨⟨dx, h1⟩, ps, h2, h3⟩ := id hR
    refine ⟨_, (pss_cons (ps_if (pt_cmpR op_ne (pe_meth0 (pv 0) CR.cl c_Reader_next_sort.m c_Reader_next_sort.G (hr.mono (by decide)) c_Reader_next_sort.b .nil pass0) (pv 1) (nomark _)) (pss_one (ps_expr (pe_meth0 (pv 0) CR.cl c_Reader_fail.m c_Reader_fail.G (hr.mono (by decide)) c_Reader_fail.b .nil (passE (takes_of rfl rfl rfl rfl))))) pss_nil)
      (pss_cons (ps_set (i := 2) sc_Reader_take_sort.nd rfl (.inl rfl) (pe_meth0 (pv 0) CR.cl c_Reader_next_word.m c_Reader_next_word.G (hr.mono (by decide)) c_Reader_next_word.b .nil pass0))
      (pss_cons (ps_fldaug (pv 0) pe_int in_add)
      (pss_one (ps_ret (pv 2)))))), ?_⟩
    refine ⟨_, rfl, r, dx, _, rfl, h1, rd_no (by decide +kernel) (by decide +kernel) (by decide +kernel), r, tl, z, L, i, rfl, hR, _, rfl, rfl, _, rfl, ?_⟩
    rw [str_dec]
    by_cases c : ns (toks2 z L) i = x
    · rw [decide_eq_true c]
      refine iteF ?_
      refine ⟨_, rfl, r, dx, _, rfl, h1, rd_no (by decide +kernel) (by decide +kernel) (by decide +kernel), r, tl, z, L, i, rfl, hR, hz, ?_⟩
      refine ⟨_, rfl, r, C, dx, _, _, rfl, h1, CR.cl, CR.nA, rd_at, _, _, rfl, rfl, dx, _, h1, by show 3 < 1000; decide, ?_⟩
      rw [show ((i : Int) + 1) = ((i + 1 : Nat) : Int) from rfl, rd_put]
      exact ⟨_, rfl, k1 c _ (hR.at_ h1) fun b o hb e => by rw [upd_ne hb]; exact e⟩
    · rw [decide_eq_false c]
      refine iteT ?_
      exact ⟨_, rfl, r, dx, _, rfl, h1, rd_no (by decide +kernel) (by decide +kernel) (by decide +kernel), r, tl, z, L, i, rfl, hR, hz, k2 c⟩
theorem nw_lt {z : Str} {L : List Tk} {i : Nat} {x : Str} (h : nw (toks2 z L) i = x) (hx : ¬ x = "") : i < L.length := by
  by_cases hi : i < L.length
  · exact hi
  · rw [nw_end (by omega)] at h
    exact absurd h.symm hx
theorem ns_lt {z : Str} {L : List Tk} {i : Nat} {x : Str} (h : ns (toks2 z L) i = x) (hx : ¬ x = "") : i < L.length := by
  by_cases hi : i < L.length
  · exact hi
  · rw [ns_end (by omega)] at h
    exact absurd h.symm hx
/-- the promise of a method that reads m -/
def spRd (K : PySem.W.Frag) (C CS : Addr) {α : Type} (args : List V) (m : Nat → Rd α) (dt : α → Dt) : Sp := fun vs H Q E => ∃ (r tl : Addr) (z : Str) (L : List Tk) (i : Nat), vs = .ref r :: args ∧ RdAt C r tl z L H i ∧ TkIn z L ∧ i ≤ L.length ∧ Wish K C CS r tl z L H Q E m i dt
theorem ok_read_name {f : Addr} {fd : FuncData} (F : Fun K "read_name" "Reader.read_name" s_Reader_read_name f fd) (T : Txt K mg) (CR : RdTxt K C) {f_Reader_take_sort : Addr} {d_Reader_take_sort : FuncData} (c_Reader_take_sort : MCalX P w K mg base C 4 "take_sort" ["self", "sort"] (spTs C CS) f_Reader_take_sort d_Reader_take_sort) : FnOk P w K mg base (L2.CX P w) 5 f fd ["self"] (spRd K C CS [] (fun _ => rname) Dt.str) := by
  refine F.okX sc_Reader_read_name (fun vs H Q E h => ?_) (fun cdv A outer s H vs Q E hr h => ?_)
  · obtain ⟨r, tl, z, L, i, rfl, _⟩ := h
    rfl
  · obtain ⟨r, tl, z, L, i, rfl, hR, hz, hi, k1, k2⟩ := h
    obtain ⟨⟨dx, h1⟩, ps, h2, h3⟩ := id hR
    refine ⟨_, (pss_one (ps_ret (pe_meth (pv 0) CR.cl c_Reader_take_sort.m c_Reader_take_sort.G (hr.mono (by decide)) c_Reader_take_sort.b .nil (passE (takes_of rfl rfl rfl rfl)) (pa_cons pe_str pa_nil)))), ?_⟩
    refine ⟨_, rfl, r, dx, _, rfl, h1, rd_no (by decide +kernel) (by decide +kernel) (by decide +kernel), r, tl, z, L, i, "name", rfl, hR, hz, fun c H' hR' hk => ?_, fun c d H' hk hx => ?_⟩
    · have hl := ns_lt c (by decide +kernel)
      exact k1 _ _ _ _ (.sort c) (by omega) (by omega) (by unfold At; rfl) hR' hk
    · exact k2 _ _ _ (.sortN c) hi hk hx
end
end OS

namespace OS
open PySem PySem.Spec PyProof.Rows L2
theorem names_at {K : PySem.W.Frag} {H : Hp} {p : Addr} {es : List Str} (h : H p = some (.tup (es.map V.str))) : At K H (namesDt es) (.ref p) := by
  unfold namesDt At
  refine ⟨p, _, rfl, h, ?_⟩
  clear h
  induction es with
  | nil =>
    show AtL K H [] []
    unfold AtL
    rfl
  | cons x r ih =>
    rw [List.map_cons, List.map_cons]
    unfold AtL
    exact ⟨_, _, rfl, by unfold At; rfl, ih⟩
theorem names_flat {K : PySem.W.Frag} {H H' : Hp} : ∀ {es : List Str} {vs : List V}, AtL K H (es.map Dt.str) vs → AtL K H' (es.map Dt.str) vs
  | [], vs, h => by
    rw [List.map_nil] at h ⊢
    unfold AtL at h ⊢
    exact h
  | x :: es, vs, h => by
    rw [List.map_cons] at h ⊢
    unfold AtL At at h ⊢
    obtain ⟨v, r, rfl, hv, h⟩ := h
    exact ⟨v, r, rfl, hv, names_flat h⟩
mutual
/-- data stand while all but an instance stands -/
theorem At.off {K : PySem.W.Frag} {H H' : Hp} {r C dx : Addr} {fs : List (Str × V)} (s : Kept r H H') (hr : H r = some (.ins C dx fs)) : ∀ {d : Dt} {v : V}, At K H d v → At K H' d v
  | .non, v, h => by unfold At at h ⊢; exact h
  | .bl b, v, h => by unfold At at h ⊢; exact h
  | .int i, v, h => by unfold At at h ⊢; exact h
  | .str x, v, h => by unfold At at h ⊢; exact h
  | .tup xs, v, h => by
    unfold At at h ⊢
    obtain ⟨p, vs, e, hp, hl⟩ := h
    exact ⟨p, vs, e, s _ _ (ne_of hp hr (by intro q; cases q)) hp, AtL.off s hr hl⟩
  | .lst xs, v, h => by
    unfold At at h ⊢
    obtain ⟨p, vs, e, hp, hl⟩ := h
    exact ⟨p, vs, e, s _ _ (ne_of hp hr (by intro q; cases q)) hp, AtL.off s hr hl⟩
theorem AtL.off {K : PySem.W.Frag} {H H' : Hp} {r C dx : Addr} {fs : List (Str × V)} (s : Kept r H H') (hr : H r = some (.ins C dx fs)) : ∀ {ds : List Dt} {vs : List V}, AtL K H ds vs → AtL K H' ds vs
  | [], vs, h => by unfold AtL at h ⊢; exact h
  | d :: ds, vs, h => by
    unfold AtL at h ⊢
    obtain ⟨v, q, e, hd, hl⟩ := h
    exact ⟨v, q, e, At.off s hr hd, AtL.off s hr hl⟩
end
theorem op_at {K : PySem.W.Frag} {H : Hp} {p : Addr} {s : Str} {a b : Val} {u v : V} (h : H p = some (.tup [.str s, u, v])) (ha : At K H a.dt u) (hb : At K H b.dt v) : At K H (Val.op s a b).dt (.ref p) := by
  unfold Val.dt At
  refine ⟨p, _, rfl, h, ?_⟩
  simp only [AtL]
  exact ⟨_, _, rfl, by unfold At; rfl, _, _, rfl, ha, _, _, rfl, hb, rfl⟩
section
variable {P : Program} {w : World} {K : PySem.W.Frag} {mg : Str → Option Value} {base : Heap} {C CS f_err : Addr} {d_err : FuncData}
theorem ok_read_names {f : Addr} {fd : FuncData} (F : Fun K "read_names" "Reader.read_names" s_Reader_read_names f fd) (T : Txt K mg) (CR : RdTxt K C) {f_Reader_next_word : Addr} {d_Reader_next_word : FuncData} (c_Reader_next_word : MCal P w K mg base C 2 "next_word" ["self"] (spNw C) f_Reader_next_word d_Reader_next_word) {f_Reader_take : Addr} {d_Reader_take : FuncData} (c_Reader_take : MCalX P w K mg base C 4 "take" ["self", "word"] (spTk C CS) f_Reader_take d_Reader_take) {f_Reader_read_name : Addr} {d_Reader_read_name : FuncData} (c_Reader_read_name : MCalX P w K mg base C 5 "read_name" ["self"] (spRd K C CS [] (fun _ => rname) Dt.str) f_Reader_read_name d_Reader_read_name) : FnOk P w K mg base (L2.CX P w) 6 f fd ["self"] (spRd K C CS [] rnames namesDt) := by
  refine F.okX sc_Reader_read_names (fun vs H Q E h => ?_) (fun cdv A outer s H vs Q E hr h => ?_)
  · obtain ⟨r, tl, z, L, i, rfl, _⟩ := h
    rfl
  · obtain ⟨r, tl, z, L, i, rfl, hR, hz, hi, k1, k2⟩ := h
    obtain ⟨⟨dx, h1⟩, _⟩ := id hR
    refine ⟨_, (pss_cons (ps_set (i := 1) sc_Reader_read_names.nd rfl (.inl rfl) (pe_lst (pa_cons (pe_meth0 (pv 0) CR.cl c_Reader_read_name.m c_Reader_read_name.G (hr.mono (by decide)) c_Reader_read_name.b .nil (passE (takes_of rfl rfl rfl rfl))) pa_nil)))
      (pss_cons (ps_while (passes_of rfl) (pt_cmpR op_eq (pe_meth0 (pv 0) CR.cl c_Reader_next_word.m c_Reader_next_word.G (hr.mono (by decide)) c_Reader_next_word.b .nil pass0) pe_str (nomark _)) (pss_cons (ps_expr (pe_meth (pv 0) CR.cl c_Reader_take.m c_Reader_take.G (hr.mono (by decide)) c_Reader_take.b .nil (passE (takes_of rfl rfl rfl rfl)) (pa_cons pe_str pa_nil)))
      (pss_one (ps_expr (pe_bm PySem.F.plainAttrs_list PySem.F.slot_list_append PySem.F.type_list_append mt_append (pv 1) (pa_cons (pe_meth0 (pv 0) CR.cl c_Reader_read_name.m c_Reader_read_name.G (hr.mono (by decide)) c_Reader_read_name.b .nil (passE (takes_of rfl rfl rfl rfl))) pa_nil))))))
      (pss_one (ps_ret (pe_callTy call_tuple_of (by rfl) T.tuple (by decide +kernel) (pa_cons (pv 1) pa_nil)))))), ?_⟩
    refine ⟨_, rfl, r, dx, _, rfl, h1, rd_no (by decide +kernel) (by decide +kernel) (by decide +kernel), r, tl, z, L, i, rfl, hR, hz, hi, fun v n j H1 ev hij hj hat R1 kp1 => ?_, fun j d H1 ev hj kp hx => k2 j d H1 (.bad ev) hj kp hx⟩
    unfold At at hat
    subst hat
    refine ⟨by show 1 ≤ sizeLine; decide, fun nl hn => ?_⟩
    have hn0 : H nl = none := by
      cases e : H nl with
      | none => rfl
      | some o =>
        by_cases hb : nl = r
        · subst hb
          obtain ⟨⟨dy, e1⟩, _⟩ := R1
          rw [e1] at hn
          cases hn
        · rw [kp1 nl o hb e] at hn
          cases hn
    have hnt : nl ≠ tl := by
      obtain ⟨ps, h2, _⟩ := hR.tk
      exact (ne_of_none h2 hn0).symm
    refine ⟨fun m σ H' => ∃ (j : Nat) (acc : List Str), σ = [some (.ref r), some (.ref nl)] ∧ RdAt C r tl z L H' j ∧ H' nl = some (.lst (acc.map V.str)) ∧ Kept r H H' ∧ i < j ∧ j ≤ L.length ∧ m = L.length - j ∧ acc.length ≤ j ∧
      ∀ res, Evn (fun f => rnamesL f acc) (toks2 z L) j res → Evn rnames (toks2 z L) i res, ⟨L.length - j, j, [n], rfl, R1.keep (same_upd hn), upd_same, (kp1.upd hn0), hij, hj, rfl, by show 1 ≤ j; omega, fun res h => .bind ev h⟩, ?_⟩
    rintro m σ H' ⟨j, acc, rfl, R2, hl, kp, hij, hj, rfl, hal, hc⟩
    obtain ⟨⟨dy, g1⟩, _⟩ := id R2
    refine ⟨_, rfl, r, dy, _, rfl, g1, rd_no (by decide +kernel) (by decide +kernel) (by decide +kernel), r, tl, z, L, j, rfl, R2, hz, rfl, _, rfl, ?_⟩
    rw [str_dec]
    by_cases c : nw (toks2 z L) j = ","
    · have hjl := nw_lt c (by decide +kernel)
      rw [decide_eq_true c]
      refine iteT ⟨_, fun _ _ h => h, ?_⟩
      refine ⟨_, rfl, r, dy, _, rfl, g1, rd_no (by decide +kernel) (by decide +kernel) (by decide +kernel), r, tl, z, L, j, ",", rfl, R2, hz, fun _ H3 R3 kp3 => ?_, fun q => absurd c q⟩
      have nlr : nl ≠ r := ne_of hl g1 (by intro q; cases q)
      have hl3 := kp3 nl _ nlr hl
      obtain ⟨⟨d3, g3⟩, _⟩ := id R3
      refine ⟨_, rfl, .inl ⟨rfl, _, SqL.of hl3⟩, ?_⟩
      refine ⟨_, rfl, r, d3, _, rfl, g3, rd_no (by decide +kernel) (by decide +kernel) (by decide +kernel), r, tl, z, L, j + 1, rfl, R3, hz, by omega, fun v n j4 H4 ev4 hij4 hj4 hat R4 kp4 => ?_, fun j4 d H4 ev4 hj4 kp4 hx => ?_⟩
      · unfold At at hat
        subst hat
        have hl4 := kp4 nl _ nlr hl3
        refine ⟨nl, _, _, rfl, rfl, hl4, ?_, ?_⟩
        · rw [List.length_map]
          exact sz6' (by have := hz.few; omega)
        · refine ⟨L.length - j4, by omega, j4, acc ++ [n], rfl, ?_, ?_, ?_, by omega, hj4, rfl, ?_, fun res h => ?_⟩
          · exact R4.put nlr hl4 hnt
          · rw [upd_same, List.map_append]
            rfl
          · exact ((kp.trans kp3).trans kp4).upd hn0
          · rw [List.length_append]
            show acc.length + 1 ≤ j4
            omega
          · exact hc res (.step (k := fun f => rbind rpeek fun w => if w = "," then rbind (rtake ",") fun _ => rbind rname fun n => rnamesL f (acc ++ [n]) else rpure acc) (.peek (.ifT c (.bind (.take c) (.bind ev4 h)))) fun f => rfl)
      · exact k2 j4 d H4 (hc _ (.step (k := fun f => rbind rpeek fun w => if w = "," then rbind (rtake ",") fun _ => rbind rname fun n => rnamesL f (acc ++ [n]) else rpure acc) (.peek (.ifT c (.bind (.take c) (.bad ev4)))) fun f => rfl)) hj4 ((kp.trans kp3).trans kp4) hx
    · rw [decide_eq_false c]
      refine iteF ⟨_, rfl, nl, _, rfl, .inl ⟨SqL.of hl, fun tp htp => ?_⟩⟩
      refine k1 (.ref tp) acc j _ (hc _ (.step (k := fun f => rbind rpeek fun w => if w = "," then rbind (rtake ",") fun _ => rbind rname fun n => rnamesL f (acc ++ [n]) else rpure acc) (.peek (.ifF c (.pure acc))) fun f => rfl)) hij hj (names_at upd_same) (R2.keep (same_upd htp)) (kp.trans (Kept.of (same_upd htp)))
end
end OS

namespace OS
open PySem PySem.Spec PyProof.Rows L2
theorem num_dt {K : PySem.W.Frag} {H : Hp} {p : Addr} {n : Int} (h : H p = some (.tup [.str "number", .int n])) : At K H (Val.num n).dt (.ref p) := by
  unfold Val.dt At
  refine ⟨p, _, rfl, h, ?_⟩
  simp only [AtL, At]
  exact ⟨_, _, rfl, rfl, _, _, rfl, rfl, rfl⟩
theorem name_dt {K : PySem.W.Frag} {H : Hp} {p : Addr} {x : Str} (h : H p = some (.tup [.str "name", .str x])) : At K H (Val.name x).dt (.ref p) := by
  unfold Val.dt At
  refine ⟨p, _, rfl, h, ?_⟩
  simp only [AtL, At]
  exact ⟨_, _, rfl, rfl, _, _, rfl, rfl, rfl⟩
theorem cutS_len (z : Str) (lo hi : Option Int) : (cutS z lo hi).length ≤ z.length := by
  unfold cutS
  show (((z.cps.toList.drop _).take _).toArray).size ≤ z.cps.size
  rw [List.size_toArray, List.length_take, List.length_drop, Array.length_toList]
  omega
theorem kind_num {s : Srt} (h : kindS s = "number") : s = .number := by
  cases s with
  | number => rfl
  | word => exact absurd h (by decide +kernel)
  | name => exact absurd h (by decide +kernel)
  | sign => exact absurd h (by decide +kernel)
  | wrong => exact absurd h (by decide +kernel)
def spV (K : PySem.W.Frag) (C CS : Addr) (n : Nat) (m : Nat → Nat → Rd Val) : Sp := fun vs H Q E => ∃ b : Nat, b ≤ 12 ∧ 12 < b + n ∧ spRd K C CS [.int b] (fun f => m f b) Val.dt vs H Q E
section
variable {P : Program} {w : World} {K : PySem.W.Frag} {mg : Str → Option Value} {base : Heap} {C CS f_err : Addr} {d_err : FuncData}
theorem ok_read_names_in_brackets {f : Addr} {fd : FuncData} (F : Fun K "read_names_in_brackets" "Reader.read_names_in_brackets" s_Reader_read_names_in_brackets f fd) (T : Txt K mg) (CR : RdTxt K C) {f_Reader_take : Addr} {d_Reader_take : FuncData} (c_Reader_take : MCalX P w K mg base C 4 "take" ["self", "word"] (spTk C CS) f_Reader_take d_Reader_take) {f_Reader_read_names : Addr} {d_Reader_read_names : FuncData} (c_Reader_read_names : MCalX P w K mg base C 6 "read_names" ["self"] (spRd K C CS [] rnames namesDt) f_Reader_read_names d_Reader_read_names) : FnOk P w K mg base (L2.CX P w) 7 f fd ["self"] (spRd K C CS [] rnamesB namesDt) := by
  refine F.okX sc_Reader_read_names_in_brackets (fun vs H Q E h => ?_) (fun cdv A outer s H vs Q E hr h => ?_)
  · obtain ⟨r, tl, z, L, i, rfl, _⟩ := h
    rfl
  · obtain ⟨r, tl, z, L, i, rfl, hR, hz, hi, k1, k2⟩ := h
    obtain ⟨⟨dx, h1⟩, _⟩ := id hR
    refine ⟨_, (pss_cons (ps_expr (pe_meth (pv 0) CR.cl c_Reader_take.m c_Reader_take.G (hr.mono (by decide)) c_Reader_take.b .nil (passE (takes_of rfl rfl rfl rfl)) (pa_cons pe_str pa_nil)))
      (pss_cons (ps_set (i := 1) sc_Reader_read_names_in_brackets.nd rfl (.inl rfl) (pe_meth0 (pv 0) CR.cl c_Reader_read_names.m c_Reader_read_names.G (hr.mono (by decide)) c_Reader_read_names.b .nil (passE (takes_of rfl rfl rfl rfl))))
      (pss_cons (ps_expr (pe_meth (pv 0) CR.cl c_Reader_take.m c_Reader_take.G (hr.mono (by decide)) c_Reader_take.b .nil (passE (takes_of rfl rfl rfl rfl)) (pa_cons pe_str pa_nil)))
      (pss_one (ps_ret (pv 1)))))), ?_⟩
    refine ⟨_, rfl, r, dx, _, rfl, h1, rd_no (by decide +kernel) (by decide +kernel) (by decide +kernel), r, tl, z, L, i, "(", rfl, hR, hz, fun c H1 R1 kp1 => ?_, fun c d H' kp hx => k2 i d H' (.bad (.takeN c)) hi kp hx⟩
    have hil := nw_lt c (by decide +kernel)
    obtain ⟨⟨d1, g1⟩, _⟩ := id R1
    refine ⟨_, rfl, r, d1, _, rfl, g1, rd_no (by decide +kernel) (by decide +kernel) (by decide +kernel), r, tl, z, L, i + 1, rfl, R1, hz, by omega, fun v es j H2 ev hij hj hat R2 kp2 => ?_, fun j d H2 ev hj kp hx => k2 j d H2 (.bind (.take c) (.bad ev)) hj (kp1.trans kp) hx⟩
    obtain ⟨⟨d2, g2⟩, _⟩ := id R2
    refine ⟨_, rfl, r, d2, _, rfl, g2, rd_no (by decide +kernel) (by decide +kernel) (by decide +kernel), r, tl, z, L, j, ")", rfl, R2, hz, fun c2 H3 R3 kp3 => ?_, fun c2 d H' kp hx => k2 j d H' (.bind (.take c) (.bind ev (.bad (.takeN c2)))) hj ((kp1.trans kp2).trans kp) hx⟩
    have hjl := nw_lt c2 (by decide +kernel)
    refine ⟨_, rfl, ?_⟩
    refine k1 v es (j + 1) H3 (.bind (.take c) (.bind ev (.bind (.take c2) (.pure es)))) (by omega) (by omega) ?_ R3 ((kp1.trans kp2).trans kp3)
    unfold namesDt At at hat ⊢
    obtain ⟨p, vs, rfl, hp, hl⟩ := hat
    have hpr : p ≠ r := ne_of hp g2 (by intro q; cases q)
    refine ⟨p, vs, rfl, kp3 p _ hpr hp, ?_⟩
    exact names_flat hl
theorem ok_read_simple {f : Addr} {fd : FuncData} (F : Fun K "read_simple" "Reader.read_simple" s_Reader_read_simple f fd) (T : Txt K mg) (CR : RdTxt K C) (hB : ∃ t, mg "MOST_BRACKETS" = some (.int 12 t)) (n : Nat) {f_Reader_next_sort : Addr} {d_Reader_next_sort : FuncData} (c_Reader_next_sort : MCal P w K mg base C 2 "next_sort" ["self"] (spNs C) f_Reader_next_sort d_Reader_next_sort) {f_Reader_take : Addr} {d_Reader_take : FuncData} (c_Reader_take : MCalX P w K mg base C 4 "take" ["self", "word"] (spTk C CS) f_Reader_take d_Reader_take) {f_Reader_take_sort : Addr} {d_Reader_take_sort : FuncData} (c_Reader_take_sort : MCalX P w K mg base C 4 "take_sort" ["self", "sort"] (spTs C CS) f_Reader_take_sort d_Reader_take_sort) {f_Reader_read_name : Addr} {d_Reader_read_name : FuncData} (c_Reader_read_name : MCalX P w K mg base C 5 "read_name" ["self"] (spRd K C CS [] (fun _ => rname) Dt.str) f_Reader_read_name d_Reader_read_name)
    {f_Reader_fail : Addr} {d_Reader_fail : FuncData} (c_Reader_fail : MCalX P w K mg base C 3 "fail" ["self"] (spFail C CS) f_Reader_fail d_Reader_fail) {f_number_value : Addr} {d_number_value : FuncData} (c_number_value : Cal P w K mg base 1 "number_value" ["digits"] spNum f_number_value d_number_value) {f_Reader_read_value : Addr} {d_Reader_read_value : FuncData} (c_Reader_read_value : MCalX P w K mg base C (5+4*n) "read_value" ["self", "brackets"] (spV K C CS n rvalue) f_Reader_read_value d_Reader_read_value) : FnOk P w K mg base (L2.CX P w) (5+4*n+1) f fd ["self", "brackets"] (spV K C CS (n+1) rsimple) := by
  refine F.okX sc_Reader_read_simple (fun vs H Q E h => ?_) (fun cdv A outer s H vs Q E hr h => ?_)
  · obtain ⟨b, _, _, r, tl, z, L, i, rfl, _⟩ := h
    rfl
  · obtain ⟨b, hb12, hbn, r, tl, z, L, i, rfl, hR, hz, hi, k1, k2⟩ := h
    obtain ⟨⟨dx, h1⟩, _⟩ := id hR
    obtain ⟨tB, m_MOST_BRACKETS⟩ := hB
    have st : ∀ {res : Res Val}, Evn (fun f => rbind rpeekS fun s => if s = "number" then rbind (rsort "number") fun d => rpure (.num (numVal d)) else if s = "name" then rbind rname fun n => rpure (.name n)
      else if 12 ≤ b then rfail else rbind (rtake "(") fun _ => rbind (rvalue f (b + 1)) fun v => rbind (rtake ")") fun _ => rpure v) (toks2 z L) i res → Evn (fun f => rsimple f b) (toks2 z L) i res := fun h => .step h fun f => by rw [rsimple]
    refine ⟨_, (pss_cons (ps_if (pt_cmpR op_eq (pe_meth0 (pv 0) CR.cl c_Reader_next_sort.m c_Reader_next_sort.G (hr.mono (by omega)) c_Reader_next_sort.b .nil pass0) pe_str (nomark _)) (pss_one (ps_ret (pe_tup (pa_cons pe_str (pa_cons (pe_call c_number_value.G (hr.mono (by omega)) (by rfl) c_number_value.m c_number_value.k c_number_value.b .nil pass0 (pa_cons (pe_meth (pv 0) CR.cl c_Reader_take_sort.m c_Reader_take_sort.G (hr.mono (by omega)) c_Reader_take_sort.b .nil (passE (takes_of rfl rfl rfl rfl)) (pa_cons pe_str pa_nil)) pa_nil)) pa_nil))))) pss_nil)
      (pss_cons (ps_if (pt_cmpR op_eq (pe_meth0 (pv 0) CR.cl c_Reader_next_sort.m c_Reader_next_sort.G (hr.mono (by omega)) c_Reader_next_sort.b .nil pass0) pe_str (nomark _)) (pss_one (ps_ret (pe_tup (pa_cons pe_str (pa_cons (pe_meth0 (pv 0) CR.cl c_Reader_read_name.m c_Reader_read_name.G (hr.mono (by omega)) c_Reader_read_name.b .nil (passE (takes_of rfl rfl rfl rfl))) pa_nil))))) pss_nil)
      (pss_cons (ps_if (pt_cmpR op_ge (pv 1) (pe_glob rfl m_MOST_BRACKETS relI) (nomark _)) (pss_one (ps_expr (pe_meth0 (pv 0) CR.cl c_Reader_fail.m c_Reader_fail.G (hr.mono (by omega)) c_Reader_fail.b .nil (passE (takes_of rfl rfl rfl rfl))))) pss_nil)
      (pss_cons (ps_expr (pe_meth (pv 0) CR.cl c_Reader_take.m c_Reader_take.G (hr.mono (by omega)) c_Reader_take.b .nil (passE (takes_of rfl rfl rfl rfl)) (pa_cons pe_str pa_nil)))
      (pss_cons (ps_set (i := 2) sc_Reader_read_simple.nd rfl (.inl rfl) (pe_meth (pv 0) CR.cl c_Reader_read_value.m c_Reader_read_value.G (hr.mono (by omega)) c_Reader_read_value.b .nil (passE (takes_of rfl rfl rfl rfl)) (pa_cons (pe_op op_add (pv 1) pe_int) pa_nil)))
      (pss_cons (ps_expr (pe_meth (pv 0) CR.cl c_Reader_take.m c_Reader_take.G (hr.mono (by omega)) c_Reader_take.b .nil (passE (takes_of rfl rfl rfl rfl)) (pa_cons pe_str pa_nil)))
      (pss_one (ps_ret (pv 2))))))))), ?_⟩
    refine ⟨_, rfl, r, dx, _, rfl, h1, rd_no (by decide +kernel) (by decide +kernel) (by decide +kernel), r, tl, z, L, i, rfl, hR, rfl, _, rfl, ?_⟩
    rw [str_dec]
    by_cases c1 : ns (toks2 z L) i = "number"
    · rw [decide_eq_true c1]
      have hil := ns_lt c1 (by decide +kernel)
      have hl := List.getElem?_eq_getElem hil
      refine iteT ?_
      refine ⟨_, rfl, r, dx, _, rfl, h1, rd_no (by decide +kernel) (by decide +kernel) (by decide +kernel), r, tl, z, L, i, "number", rfl, hR, hz, fun _ H1 R1 kp1 => ?_, fun q => absurd c1 q⟩
      have hk : kindS L[i].s = "number" := by rw [← ns_of hl (z := z)]; exact c1
      refine ⟨nw (toks2 z L) i, rfl, ?_, ?_, ?_⟩
      · rw [nw_of hl]
        exact Nat.le_trans (cutS_len _ _ _) hz.len
      · rw [nw_of hl]
        exact hz.dig _ (List.getElem_mem hil) (kind_num hk)
      · refine ⟨by show 2 ≤ sizeLine; decide, fun p hp => ?_⟩
        exact k1 (.ref p) (.num (numVal (nw (toks2 z L) i))) (i + 1) _ (st (.peekS (.ifT c1 (.bind (.sort c1) (.pure _))))) (by omega) (by omega) (num_dt upd_same) (R1.keep (same_upd hp)) (kp1.trans (Kept.of (same_upd hp)))
    · rw [decide_eq_false c1]
      refine iteF ?_
      refine ⟨_, rfl, r, dx, _, rfl, h1, rd_no (by decide +kernel) (by decide +kernel) (by decide +kernel), r, tl, z, L, i, rfl, hR, rfl, _, rfl, ?_⟩
      rw [str_dec]
      by_cases c2 : ns (toks2 z L) i = "name"
      · rw [decide_eq_true c2]
        refine iteT ?_
        refine ⟨_, rfl, r, dx, _, rfl, h1, rd_no (by decide +kernel) (by decide +kernel) (by decide +kernel), r, tl, z, L, i, rfl, hR, hz, hi, fun v x j H1 ev hij hj hat R1 kp1 => ?_, fun j d H1 ev hj kp hx => k2 j d H1 (st (.peekS (.ifF c1 (.ifT c2 (.bad ev))))) hj kp hx⟩
        unfold At at hat
        subst hat
        refine ⟨by show 2 ≤ sizeLine; decide, fun p hp => ?_⟩
        exact k1 (.ref p) (.name x) j _ (st (.peekS (.ifF c1 (.ifT c2 (.bind ev (.pure _)))))) hij hj (name_dt upd_same) (R1.keep (same_upd hp)) (kp1.trans (Kept.of (same_upd hp)))
      · rw [decide_eq_false c2]
        refine iteF ?_
        refine ⟨_, rfl, _, _, rfl, rfl, _, rfl, ?_⟩
        by_cases c3 : 12 ≤ b
        · rw [decide_eq_true (show (12 : Int) ≤ (b : Int) by omega)]
          refine iteT ?_
          exact ⟨_, rfl, r, dx, _, rfl, h1, rd_no (by decide +kernel) (by decide +kernel) (by decide +kernel), r, tl, z, L, i, rfl, hR, hz, fun d H' kp hx => k2 i d H' (st (.peekS (.ifF c1 (.ifF c2 (.ifT c3 (.const rfl)))))) hi kp hx⟩
        · rw [decide_eq_false (show ¬ (12 : Int) ≤ (b : Int) by omega)]
          refine iteF ?_
          refine ⟨_, rfl, r, dx, _, rfl, h1, rd_no (by decide +kernel) (by decide +kernel) (by decide +kernel), r, tl, z, L, i, "(", rfl, hR, hz, fun c H1 R1 kp1 => ?_, fun c d H' kp hx => k2 i d H' (st (.peekS (.ifF c1 (.ifF c2 (.ifF c3 (.bad (.takeN c))))))) hi kp hx⟩
          have hil := nw_lt c (by decide +kernel)
          obtain ⟨⟨d1, g1⟩, _⟩ := id R1
          refine ⟨_, rfl, r, d1, _, rfl, g1, rd_no (by decide +kernel) (by decide +kernel) (by decide +kernel), _, rfl, _, _, rfl, rfl, b + 1, by omega, by omega, r, tl, z, L, i + 1, rfl, R1, hz, by omega, fun v vl j H2 ev hij hj hat R2 kp2 => ?_,
            fun j d H2 ev hj kp hx => k2 j d H2 (st (.peekS (.ifF c1 (.ifF c2 (.ifF c3 (.bind (.take c) (.bad ev))))))) hj (kp1.trans kp) hx⟩
          obtain ⟨⟨d2, g2⟩, _⟩ := id R2
          refine ⟨_, rfl, r, d2, _, rfl, g2, rd_no (by decide +kernel) (by decide +kernel) (by decide +kernel), r, tl, z, L, j, ")", rfl, R2, hz, fun cc H3 R3 kp3 => ?_, fun cc d H' kp hx => k2 j d H' (st (.peekS (.ifF c1 (.ifF c2 (.ifF c3 (.bind (.take c) (.bind ev (.bad (.takeN cc))))))))) hj ((kp1.trans kp2).trans kp) hx⟩
          have hjl := nw_lt cc (by decide +kernel)
          exact ⟨_, rfl, k1 v vl (j + 1) H3 (st (.peekS (.ifF c1 (.ifF c2 (.ifF c3 (.bind (.take c) (.bind ev (.bind (.take cc) (.pure vl))))))))) (by omega) (by omega) (At.off kp3 g2 hat) R3 ((kp1.trans kp2).trans kp3)⟩
end
end OS

namespace OS
open PySem PySem.Spec PyProof.Rows L2
theorem in_two (x a b : Str) : inV (.str x) [.str a, .str b] = decide (x = a ∨ x = b) := by
  unfold inV
  rw [List.any_cons, List.any_cons, List.any_nil, Bool.or_false]
  show ((a == x) || (b == x)) = _
  by_cases h1 : x = a
  · subst h1
    rw [beq_self_eq_true, Bool.true_or, decide_eq_true (Or.inl rfl)]
  · rw [beq_eq_false_iff_ne.mpr (fun q => h1 q.symm), Bool.false_or]
    by_cases h2 : x = b
    · subst h2
      rw [beq_self_eq_true, decide_eq_true (Or.inr rfl)]
    · rw [beq_eq_false_iff_ne.mpr (fun q => h2 q.symm), decide_eq_false (by rintro (q | q); exact h1 q; exact h2 q)]
section
variable {P : Program} {w : World} {K : PySem.W.Frag} {mg : Str → Option Value} {base : Heap} {C CS f_err : Addr} {d_err : FuncData}
theorem ok_read_product {f : Addr} {fd : FuncData} (F : Fun K "read_product" "Reader.read_product" s_Reader_read_product f fd) (T : Txt K mg) (CR : RdTxt K C) (n : Nat) {f_Reader_next_word : Addr} {d_Reader_next_word : FuncData} (c_Reader_next_word : MCal P w K mg base C 2 "next_word" ["self"] (spNw C) f_Reader_next_word d_Reader_next_word) {f_Reader_take : Addr} {d_Reader_take : FuncData} (c_Reader_take : MCalX P w K mg base C 4 "take" ["self", "word"] (spTk C CS) f_Reader_take d_Reader_take) {f_Reader_read_simple : Addr} {d_Reader_read_simple : FuncData} (c_Reader_read_simple : MCalX P w K mg base C (5+4*n+1) "read_simple" ["self", "brackets"] (spV K C CS (n+1) rsimple) f_Reader_read_simple d_Reader_read_simple) : FnOk P w K mg base (L2.CX P w) (5+4*n+2) f fd ["self", "brackets"] (spV K C CS (n+1) rprod) := by
  refine F.okX sc_Reader_read_product (fun vs H Q E h => ?_) (fun cdv A outer s H vs Q E hr h => ?_)
  · obtain ⟨b, _, _, r, tl, z, L, i, rfl, _⟩ := h
    rfl
  · obtain ⟨b, hb12, hbn, r, tl, z, L, i, rfl, hR, hz, hi, k1, k2⟩ := h
    obtain ⟨⟨dx, h1⟩, _⟩ := id hR
    have st : ∀ {res : Res Val}, Evn (fun f => rbind (rsimple f b) fun l => rprodL f b l) (toks2 z L) i res → Evn (fun f => rprod f b) (toks2 z L) i res := fun h => .step h fun f => by rw [rprod]
    have sl : ∀ {l : Val} {j : Nat} {res : Res Val}, Evn (fun f => rbind rpeek fun w => if w = "*" then rbind (rtake "*") fun _ => rbind (rsimple f b) fun r => rprodL f b (.op "*" l r) else rpure l) (toks2 z L) j res → Evn (fun f => rprodL f b l) (toks2 z L) j res := fun h => .step h fun f => by rw [rprodL]
    refine ⟨_, (pss_cons (ps_set (i := 2) sc_Reader_read_product.nd rfl (.inl rfl) (pe_meth (pv 0) CR.cl c_Reader_read_simple.m c_Reader_read_simple.G (hr.mono (by omega)) c_Reader_read_simple.b .nil (passE (takes_of rfl rfl rfl rfl)) (pa_cons (pv 1) pa_nil)))
      (pss_cons (ps_while (passes_of rfl) (pt_cmpR op_eq (pe_meth0 (pv 0) CR.cl c_Reader_next_word.m c_Reader_next_word.G (hr.mono (by omega)) c_Reader_next_word.b .nil pass0) pe_str (nomark _)) (pss_cons (ps_expr (pe_meth (pv 0) CR.cl c_Reader_take.m c_Reader_take.G (hr.mono (by omega)) c_Reader_take.b .nil (passE (takes_of rfl rfl rfl rfl)) (pa_cons pe_str pa_nil)))
      (pss_one (ps_set (i := 2) sc_Reader_read_product.nd rfl (.inl rfl) (pe_tup (pa_cons pe_str (pa_cons (pv 2) (pa_cons (pe_meth (pv 0) CR.cl c_Reader_read_simple.m c_Reader_read_simple.G (hr.mono (by omega)) c_Reader_read_simple.b .nil (passE (takes_of rfl rfl rfl rfl)) (pa_cons (pv 1) pa_nil)) pa_nil))))))))
      (pss_one (ps_ret (pv 2))))), ?_⟩
    refine ⟨_, rfl, r, dx, _, rfl, h1, rd_no (by decide +kernel) (by decide +kernel) (by decide +kernel), _, rfl, b, hb12, hbn, r, tl, z, L, i, rfl, hR, hz, hi, fun v vl j H1 ev hij hj hat R1 kp1 => ?_, fun j d H1 ev hj kp hx => k2 j d H1 (st (.bad ev)) hj kp hx⟩
    refine ⟨fun m σ H' => ∃ (j : Nat) (vl : Val) (v : V), σ = [some (.ref r), some (.int b), some v] ∧ At K H' vl.dt v ∧ RdAt C r tl z L H' j ∧ Kept r H H' ∧ i < j ∧ j ≤ L.length ∧ m = L.length - j ∧
      ∀ res, Evn (fun f => rprodL f b vl) (toks2 z L) j res → Evn (fun f => rprod f b) (toks2 z L) i res, ⟨L.length - j, j, vl, v, rfl, hat, R1, kp1, hij, hj, rfl, fun res h => st (.bind ev h)⟩, ?_⟩
    rintro m σ H' ⟨j, vl, v, rfl, hat, R2, kp, hij, hj, rfl, hc⟩
    obtain ⟨⟨dy, g1⟩, _⟩ := id R2
    refine ⟨_, rfl, r, dy, _, rfl, g1, rd_no (by decide +kernel) (by decide +kernel) (by decide +kernel), r, tl, z, L, j, rfl, R2, hz, rfl, _, rfl, ?_⟩
    rw [str_dec]
    by_cases c : nw (toks2 z L) j = "*"
    · have hjl := nw_lt c (by decide +kernel)
      rw [decide_eq_true c]
      refine iteT ⟨_, fun _ _ h => h, ?_⟩
      refine ⟨_, rfl, r, dy, _, rfl, g1, rd_no (by decide +kernel) (by decide +kernel) (by decide +kernel), r, tl, z, L, j, "*", rfl, R2, hz, fun _ H3 R3 kp3 => ?_, fun q => absurd c q⟩
      obtain ⟨⟨d3, g3⟩, _⟩ := id R3
      refine ⟨_, rfl, _, rfl, r, d3, _, rfl, g3, rd_no (by decide +kernel) (by decide +kernel) (by decide +kernel), _, rfl, b, hb12, hbn, r, tl, z, L, j + 1, rfl, R3, hz, by omega, fun v4 vl4 j4 H4 ev4 hij4 hj4 hat4 R4 kp4 => ?_,
        fun j4 d H4 ev4 hj4 kp4 hx => k2 j4 d H4 (hc _ (sl (.peek (.ifT c (.bind (.take c) (.bad ev4)))))) hj4 ((kp.trans kp3).trans kp4) hx⟩
      refine ⟨by show 3 ≤ sizeLine; decide, fun p hp => ?_⟩
      have hat' := At.off kp4 g3 (At.off kp3 g1 hat)
      refine ⟨L.length - j4, by omega, j4, .op "*" vl vl4, _, rfl, op_at upd_same (At.keep (same_upd hp) hat') (At.keep (same_upd hp) hat4), R4.keep (same_upd hp), ((kp.trans kp3).trans kp4).trans (Kept.of (same_upd hp)), by omega, hj4, rfl, fun res h => ?_⟩
      exact hc res (sl (.peek (.ifT c (.bind (.take c) (.bind ev4 h)))))
    · rw [decide_eq_false c]
      exact iteF ⟨_, rfl, k1 v vl j H' (hc _ (sl (.peek (.ifF c (.pure vl))))) hij hj hat R2 kp⟩
theorem ok_read_sum {f : Addr} {fd : FuncData} (F : Fun K "read_sum" "Reader.read_sum" s_Reader_read_sum f fd) (T : Txt K mg) (CR : RdTxt K C) (n : Nat) {f_Reader_next_word : Addr} {d_Reader_next_word : FuncData} (c_Reader_next_word : MCal P w K mg base C 2 "next_word" ["self"] (spNw C) f_Reader_next_word d_Reader_next_word) {f_Reader_take_sort : Addr} {d_Reader_take_sort : FuncData} (c_Reader_take_sort : MCalX P w K mg base C 4 "take_sort" ["self", "sort"] (spTs C CS) f_Reader_take_sort d_Reader_take_sort) {f_Reader_read_product : Addr} {d_Reader_read_product : FuncData} (c_Reader_read_product : MCalX P w K mg base C (5+4*n+2) "read_product" ["self", "brackets"] (spV K C CS (n+1) rprod) f_Reader_read_product d_Reader_read_product) : FnOk P w K mg base (L2.CX P w) (5+4*n+3) f fd ["self", "brackets"] (spV K C CS (n+1) rsum) := by
  refine F.okX sc_Reader_read_sum (fun vs H Q E h => ?_) (fun cdv A outer s H vs Q E hr h => ?_)
  · obtain ⟨b, _, _, r, tl, z, L, i, rfl, _⟩ := h
    rfl
  · obtain ⟨b, hb12, hbn, r, tl, z, L, i, rfl, hR, hz, hi, k1, k2⟩ := h
    obtain ⟨⟨dx, h1⟩, _⟩ := id hR
    have st : ∀ {res : Res Val}, Evn (fun f => rbind (rprod f b) fun l => rsumL f b l) (toks2 z L) i res → Evn (fun f => rsum f b) (toks2 z L) i res := fun h => .step h fun f => by rw [rsum]
    have sl : ∀ {l : Val} {j : Nat} {res : Res Val}, Evn (fun f => rbind rpeek fun w => if w = "+" ∨ w = "-" then rbind (rsort "sign") fun s => rbind (rprod f b) fun r => rsumL f b (.op s l r) else rpure l) (toks2 z L) j res → Evn (fun f => rsumL f b l) (toks2 z L) j res := fun h => .step h fun f => by rw [rsumL]
    refine ⟨_, (pss_cons (ps_set (i := 2) sc_Reader_read_sum.nd rfl (.inl rfl) (pe_meth (pv 0) CR.cl c_Reader_read_product.m c_Reader_read_product.G (hr.mono (by omega)) c_Reader_read_product.b .nil (passE (takes_of rfl rfl rfl rfl)) (pa_cons (pv 1) pa_nil)))
      (pss_cons (ps_while (passes_of rfl) (pt_cmpR op_in_seq (pe_meth0 (pv 0) CR.cl c_Reader_next_word.m c_Reader_next_word.G (hr.mono (by omega)) c_Reader_next_word.b .nil pass0) (pe_tup (pa_cons pe_str (pa_cons pe_str pa_nil))) (by rfl)) (pss_cons (ps_set (i := 3) sc_Reader_read_sum.nd rfl (.inl rfl) (pe_meth (pv 0) CR.cl c_Reader_take_sort.m c_Reader_take_sort.G (hr.mono (by omega)) c_Reader_take_sort.b .nil (passE (takes_of rfl rfl rfl rfl)) (pa_cons pe_str pa_nil)))
      (pss_one (ps_set (i := 2) sc_Reader_read_sum.nd rfl (.inl rfl) (pe_tup (pa_cons (pv 3) (pa_cons (pv 2) (pa_cons (pe_meth (pv 0) CR.cl c_Reader_read_product.m c_Reader_read_product.G (hr.mono (by omega)) c_Reader_read_product.b .nil (passE (takes_of rfl rfl rfl rfl)) (pa_cons (pv 1) pa_nil)) pa_nil))))))))
      (pss_one (ps_ret (pv 2))))), ?_⟩
    refine ⟨_, rfl, r, dx, _, rfl, h1, rd_no (by decide +kernel) (by decide +kernel) (by decide +kernel), _, rfl, b, hb12, hbn, r, tl, z, L, i, rfl, hR, hz, hi, fun v vl j H1 ev hij hj hat R1 kp1 => ?_, fun j d H1 ev hj kp hx => k2 j d H1 (st (.bad ev)) hj kp hx⟩
    refine ⟨fun m σ H' => ∃ (j : Nat) (vl : Val) (v : V) (y : Option V), σ = [some (.ref r), some (.int b), some v, y] ∧ At K H' vl.dt v ∧ RdAt C r tl z L H' j ∧ Kept r H H' ∧ i < j ∧ j ≤ L.length ∧ m = L.length - j ∧
      ∀ res, Evn (fun f => rsumL f b vl) (toks2 z L) j res → Evn (fun f => rsum f b) (toks2 z L) i res, ⟨L.length - j, j, vl, v, none, rfl, hat, R1, kp1, hij, hj, rfl, fun res h => st (.bind ev h)⟩, ?_⟩
    rintro m σ H' ⟨j, vl, v, y, rfl, hat, R2, kp, hij, hj, rfl, hc⟩
    obtain ⟨⟨dy, g1⟩, _⟩ := id R2
    refine ⟨_, rfl, r, dy, _, rfl, g1, rd_no (by decide +kernel) (by decide +kernel) (by decide +kernel), r, tl, z, L, j, rfl, R2, hz, ?_⟩
    refine ⟨by show 2 ≤ sizeLine; decide, fun q hq => ?_⟩
    refine ⟨q, _, rfl, .inr (SqT.of upd_same), rfl, by decide +kernel, _, rfl, ?_⟩
    rw [if_neg Bool.false_ne_true, in_two]
    have sq : Same H' (upd H' q (.tup [.str "+", .str "-"])) := same_upd hq
    have R2q := R2.keep sq
    have g1q := sq _ _ g1
    have kpq := kp.trans (Kept.of sq)
    have hatq := At.keep sq hat
    by_cases c : nw (toks2 z L) j = "+" ∨ nw (toks2 z L) j = "-"
    · have hjl : j < L.length := by
        rcases c with c | c
        · exact nw_lt c (by decide +kernel)
        · exact nw_lt c (by decide +kernel)
      rw [decide_eq_true c]
      refine iteT ⟨_, fun _ _ h => h, ?_⟩
      refine ⟨_, rfl, r, dy, _, rfl, g1q, rd_no (by decide +kernel) (by decide +kernel) (by decide +kernel), r, tl, z, L, j, "sign", rfl, R2q, hz, fun c2 H3 R3 kp3 => ?_, fun c2 d H3 kp3 hx => k2 j d H3 (hc _ (sl (.peek (.ifT c (.bad (.sortN c2)))))) hj (kpq.trans kp3) hx⟩
      obtain ⟨⟨d3, g3⟩, _⟩ := id R3
      refine ⟨_, rfl, _, rfl, _, rfl, r, d3, _, rfl, g3, rd_no (by decide +kernel) (by decide +kernel) (by decide +kernel), _, rfl, b, hb12, hbn, r, tl, z, L, j + 1, rfl, R3, hz, by omega, fun v4 vl4 j4 H4 ev4 hij4 hj4 hat4 R4 kp4 => ?_,
        fun j4 d H4 ev4 hj4 kp4 hx => k2 j4 d H4 (hc _ (sl (.peek (.ifT c (.bind (.sort c2) (.bad ev4)))))) hj4 ((kpq.trans kp3).trans kp4) hx⟩
      refine ⟨by show 3 ≤ sizeLine; decide, fun p hp => ?_⟩
      have hat' := At.off kp4 g3 (At.off kp3 g1q hatq)
      refine ⟨L.length - j4, by omega, j4, .op (nw (toks2 z L) j) vl vl4, _, _, rfl, op_at upd_same (At.keep (same_upd hp) hat') (At.keep (same_upd hp) hat4), R4.keep (same_upd hp), ((kpq.trans kp3).trans kp4).trans (Kept.of (same_upd hp)), by omega, hj4, rfl, fun res h => ?_⟩
      exact hc res (sl (.peek (.ifT c (.bind (.sort c2) (.bind ev4 h)))))
    · rw [decide_eq_false c]
      exact iteF ⟨_, rfl, k1 v vl j _ (hc _ (sl (.peek (.ifF c (.pure vl))))) hij hj hatq R2q kpq⟩
theorem ok_read_value {f : Addr} {fd : FuncData} (F : Fun K "read_value" "Reader.read_value" s_Reader_read_value f fd) (T : Txt K mg) (CR : RdTxt K C) (n : Nat) {f_Reader_next_word : Addr} {d_Reader_next_word : FuncData} (c_Reader_next_word : MCal P w K mg base C 2 "next_word" ["self"] (spNw C) f_Reader_next_word d_Reader_next_word) {f_Reader_take_sort : Addr} {d_Reader_take_sort : FuncData} (c_Reader_take_sort : MCalX P w K mg base C 4 "take_sort" ["self", "sort"] (spTs C CS) f_Reader_take_sort d_Reader_take_sort) {f_Reader_read_sum : Addr} {d_Reader_read_sum : FuncData} (c_Reader_read_sum : MCalX P w K mg base C (5+4*n+3) "read_sum" ["self", "brackets"] (spV K C CS (n+1) rsum) f_Reader_read_sum d_Reader_read_sum) : FnOk P w K mg base (L2.CX P w) (5+4*n+4) f fd ["self", "brackets"] (spV K C CS (n+1) rvalue) := by
  refine F.okX sc_Reader_read_value (fun vs H Q E h => ?_) (fun cdv A outer s H vs Q E hr h => ?_)
  · obtain ⟨b, _, _, r, tl, z, L, i, rfl, _⟩ := h
    rfl
  · obtain ⟨b, hb12, hbn, r, tl, z, L, i, rfl, hR, hz, hi, k1, k2⟩ := h
    obtain ⟨⟨dx, h1⟩, _⟩ := id hR
    have st : ∀ {res : Res Val}, Evn (fun f => rbind (rsum f b) fun l => rbind rpeek fun w => if w = "<" ∨ w = "==" then rbind (rsort "sign") fun s => rbind (rsum f b) fun r => rpure (.op s l r) else rpure l) (toks2 z L) i res → Evn (fun f => rvalue f b) (toks2 z L) i res := fun h => .step h fun f => by rw [rvalue]
    refine ⟨_, (pss_cons (ps_set (i := 2) sc_Reader_read_value.nd rfl (.inl rfl) (pe_meth (pv 0) CR.cl c_Reader_read_sum.m c_Reader_read_sum.G (hr.mono (by omega)) c_Reader_read_sum.b .nil (passE (takes_of rfl rfl rfl rfl)) (pa_cons (pv 1) pa_nil)))
      (pss_cons (ps_if (pt_cmpR op_notIn_seq (pe_meth0 (pv 0) CR.cl c_Reader_next_word.m c_Reader_next_word.G (hr.mono (by omega)) c_Reader_next_word.b .nil pass0) (pe_tup (pa_cons pe_str (pa_cons pe_str pa_nil))) (by rfl)) (pss_one (ps_ret (pv 2))) pss_nil)
      (pss_cons (ps_set (i := 3) sc_Reader_read_value.nd rfl (.inl rfl) (pe_meth (pv 0) CR.cl c_Reader_take_sort.m c_Reader_take_sort.G (hr.mono (by omega)) c_Reader_take_sort.b .nil (passE (takes_of rfl rfl rfl rfl)) (pa_cons pe_str pa_nil)))
      (pss_one (ps_ret (pe_tup (pa_cons (pv 3) (pa_cons (pv 2) (pa_cons (pe_meth (pv 0) CR.cl c_Reader_read_sum.m c_Reader_read_sum.G (hr.mono (by omega)) c_Reader_read_sum.b .nil (passE (takes_of rfl rfl rfl rfl)) (pa_cons (pv 1) pa_nil)) pa_nil))))))))), ?_⟩
    refine ⟨_, rfl, r, dx, _, rfl, h1, rd_no (by decide +kernel) (by decide +kernel) (by decide +kernel), _, rfl, b, hb12, hbn, r, tl, z, L, i, rfl, hR, hz, hi, fun v vl j H' ev hij hj hat R2 kp => ?_, fun j d H1 ev hj kp hx => k2 j d H1 (st (.bad ev)) hj kp hx⟩
    obtain ⟨⟨dy, g1⟩, _⟩ := id R2
    refine ⟨_, rfl, r, dy, _, rfl, g1, rd_no (by decide +kernel) (by decide +kernel) (by decide +kernel), r, tl, z, L, j, rfl, R2, hz, ?_⟩
    refine ⟨by show 2 ≤ sizeLine; decide, fun q hq => ?_⟩
    refine ⟨q, _, rfl, .inr (SqT.of upd_same), rfl, by decide +kernel, _, rfl, ?_⟩
    rw [if_pos rfl, in_two]
    have sq : Same H' (upd H' q (.tup [.str "<", .str "=="])) := same_upd hq
    have R2q := R2.keep sq
    have g1q := sq _ _ g1
    have kpq := kp.trans (Kept.of sq)
    have hatq := At.keep sq hat
    by_cases c : nw (toks2 z L) j = "<" ∨ nw (toks2 z L) j = "=="
    · rw [decide_eq_true c]
      have hjl : j < L.length := by
        rcases c with c | c
        · exact nw_lt c (by decide +kernel)
        · exact nw_lt c (by decide +kernel)
      refine iteF ?_
      refine ⟨_, rfl, r, dy, _, rfl, g1q, rd_no (by decide +kernel) (by decide +kernel) (by decide +kernel), r, tl, z, L, j, "sign", rfl, R2q, hz, fun c2 H3 R3 kp3 => ?_, fun c2 d H3 kp3 hx => k2 j d H3 (st (.bind ev (.peek (.ifT c (.bad (.sortN c2)))))) hj (kpq.trans kp3) hx⟩
      obtain ⟨⟨d3, g3⟩, _⟩ := id R3
      refine ⟨_, rfl, _, rfl, _, rfl, r, d3, _, rfl, g3, rd_no (by decide +kernel) (by decide +kernel) (by decide +kernel), _, rfl, b, hb12, hbn, r, tl, z, L, j + 1, rfl, R3, hz, by omega, fun v4 vl4 j4 H4 ev4 hij4 hj4 hat4 R4 kp4 => ?_,
        fun j4 d H4 ev4 hj4 kp4 hx => k2 j4 d H4 (st (.bind ev (.peek (.ifT c (.bind (.sort c2) (.bad ev4)))))) hj4 ((kpq.trans kp3).trans kp4) hx⟩
      refine ⟨by show 3 ≤ sizeLine; decide, fun p hp => ?_⟩
      have hat' := At.off kp4 g3 (At.off kp3 g1q hatq)
      exact k1 (.ref p) (.op (nw (toks2 z L) j) vl vl4) j4 _ (st (.bind ev (.peek (.ifT c (.bind (.sort c2) (.bind ev4 (.pure _))))))) (by omega) hj4 (op_at upd_same (At.keep (same_upd hp) hat') (At.keep (same_upd hp) hat4)) (R4.keep (same_upd hp)) (((kpq.trans kp3).trans kp4).trans (Kept.of (same_upd hp)))
    · rw [decide_eq_false c]
      exact iteT ⟨_, rfl, k1 v vl j _ (st (.bind ev (.peek (.ifF c (.pure vl))))) hij hj hatq R2q kpq⟩
end
end OS

namespace OS
open PySem PySem.Spec PyProof.Rows L2
section
variable {P : Program} {w : World} {K : PySem.W.Frag} {mg : Str → Option Value} {base : Heap} {C CS f_err : Addr} {d_err : FuncData}
theorem value_none {f : Addr} {fd : FuncData} {ps : List Str} : FnOk P w K mg base (L2.CX P w) (5+4*0) f fd ps (spV K C CS 0 rvalue) := by
  have no : ∀ vs H Q E, ¬ spV K C CS 0 rvalue vs H Q E := fun vs H Q E h => by
    obtain ⟨b, h1, h2, _⟩ := h
    omega
  exact ⟨fun vs H Q E h => absurd h (no vs H Q E), fun A outer s H args us vs Q E _ _ _ _ h => absurd h (no vs H Q E)⟩
def spM (K : PySem.W.Frag) (C CS : Addr) {α : Type} (m : Str → Nat → Rd α) (dt : α → Dt) : Sp := fun vs H Q E => ∃ a : Str, spRd K C CS [.str a] (m a) dt vs H Q E
def decDt (ev : Str × Val) : Dt := .tup [.str ev.1, ev.2.dt]
theorem ok_read_message {f : Addr} {fd : FuncData} (F : Fun K "read_message" "Reader.read_message" s_Reader_read_message f fd) (T : Txt K mg) (CR : RdTxt K C) {f_Reader_take : Addr} {d_Reader_take : FuncData} (c_Reader_take : MCalX P w K mg base C 4 "take" ["self", "word"] (spTk C CS) f_Reader_take d_Reader_take) {f_Reader_read_name : Addr} {d_Reader_read_name : FuncData} (c_Reader_read_name : MCalX P w K mg base C 5 "read_name" ["self"] (spRd K C CS [] (fun _ => rname) Dt.str) f_Reader_read_name d_Reader_read_name) {f_Reader_read_value : Addr} {d_Reader_read_value : FuncData} (c_Reader_read_value : MCalX P w K mg base C 57 "read_value" ["self", "brackets"] (spV K C CS 13 rvalue) f_Reader_read_value d_Reader_read_value) : FnOk P w K mg base (L2.CX P w) 58 f fd ["self", "sender"] (spM K C CS (fun a f => rmsg f a) Stm.dt) := by
  refine F.okX sc_Reader_read_message (fun vs H Q E h => ?_) (fun cdv A outer s H vs Q E hr h => ?_)
  · obtain ⟨a, r, tl, z, L, i, rfl, _⟩ := h
    rfl
  · obtain ⟨a, r, tl, z, L, i, rfl, hR, hz, hi, k1, k2⟩ := h
    obtain ⟨⟨dx, h1⟩, _⟩ := id hR
    refine ⟨_, (pss_cons (ps_expr (pe_meth (pv 0) CR.cl c_Reader_take.m c_Reader_take.G (hr.mono (by decide)) c_Reader_take.b .nil (passE (takes_of rfl rfl rfl rfl)) (pa_cons pe_str pa_nil)))
      (pss_cons (ps_set (i := 2) sc_Reader_read_message.nd rfl (.inl rfl) (pe_meth0 (pv 0) CR.cl c_Reader_read_name.m c_Reader_read_name.G (hr.mono (by decide)) c_Reader_read_name.b .nil (passE (takes_of rfl rfl rfl rfl))))
      (pss_cons (ps_expr (pe_meth (pv 0) CR.cl c_Reader_take.m c_Reader_take.G (hr.mono (by decide)) c_Reader_take.b .nil (passE (takes_of rfl rfl rfl rfl)) (pa_cons pe_str pa_nil)))
      (pss_cons (ps_set (i := 3) sc_Reader_read_message.nd rfl (.inl rfl) (pe_meth0 (pv 0) CR.cl c_Reader_read_name.m c_Reader_read_name.G (hr.mono (by decide)) c_Reader_read_name.b .nil (passE (takes_of rfl rfl rfl rfl))))
      (pss_cons (ps_expr (pe_meth (pv 0) CR.cl c_Reader_take.m c_Reader_take.G (hr.mono (by decide)) c_Reader_take.b .nil (passE (takes_of rfl rfl rfl rfl)) (pa_cons pe_str pa_nil)))
      (pss_cons (ps_set (i := 4) sc_Reader_read_message.nd rfl (.inl rfl) (pe_meth (pv 0) CR.cl c_Reader_read_value.m c_Reader_read_value.G (hr.mono (by decide)) c_Reader_read_value.b .nil (passE (takes_of rfl rfl rfl rfl)) (pa_cons pe_int pa_nil)))
      (pss_cons (ps_expr (pe_meth (pv 0) CR.cl c_Reader_take.m c_Reader_take.G (hr.mono (by decide)) c_Reader_take.b .nil (passE (takes_of rfl rfl rfl rfl)) (pa_cons pe_str pa_nil)))
      (pss_cons (ps_expr (pe_meth (pv 0) CR.cl c_Reader_take.m c_Reader_take.G (hr.mono (by decide)) c_Reader_take.b .nil (passE (takes_of rfl rfl rfl rfl)) (pa_cons pe_str pa_nil)))
      (pss_one (ps_ret (pe_tup (pa_cons pe_str (pa_cons (pv 1) (pa_cons (pv 2) (pa_cons (pv 3) (pa_cons (pv 4) (pa_cons (pe_meth0 (pv 0) CR.cl c_Reader_read_name.m c_Reader_read_name.G (hr.mono (by decide)) c_Reader_read_name.b .nil (passE (takes_of rfl rfl rfl rfl))) pa_nil))))))))))))))))), ?_⟩
    refine ⟨_, rfl, r, dx, _, rfl, h1, rd_no (by decide +kernel) (by decide +kernel) (by decide +kernel), r, tl, z, L, i, "->", rfl, hR, hz, fun c1 H1 R1 q1 => ?_, fun c d H' kp hx => k2 i d H' (.bad (.takeN c)) hi kp hx⟩
    have l1 := nw_lt c1 (by decide +kernel)
    obtain ⟨⟨d1, g1⟩, _⟩ := id R1
    refine ⟨_, rfl, r, d1, _, rfl, g1, rd_no (by decide +kernel) (by decide +kernel) (by decide +kernel), r, tl, z, L, i + 1, rfl, R1, hz, by omega, fun v2 x2 j2 H2 e2 o2 p2 a2 R2 q2 => ?_, fun j d H' ev hj kp hx => k2 j d H' (.bind (.take c1) (.bad ev)) hj (q1.trans kp) hx⟩
    unfold At at a2
    subst a2
    obtain ⟨⟨d2, g2⟩, _⟩ := id R2
    refine ⟨_, rfl, r, d2, _, rfl, g2, rd_no (by decide +kernel) (by decide +kernel) (by decide +kernel), r, tl, z, L, j2, ":", rfl, R2, hz, fun c3 H3 R3 q3 => ?_, fun c d H' kp hx => k2 j2 d H' (.bind (.take c1) (.bind e2 (.bad (.takeN c)))) p2 ((q1.trans q2).trans kp) hx⟩
    have l3 := nw_lt c3 (by decide +kernel)
    obtain ⟨⟨d3, g3⟩, _⟩ := id R3
    refine ⟨_, rfl, r, d3, _, rfl, g3, rd_no (by decide +kernel) (by decide +kernel) (by decide +kernel), r, tl, z, L, j2 + 1, rfl, R3, hz, by omega, fun v4 x4 j4 H4 e4 o4 p4 a4 R4 q4 => ?_, fun j d H' ev hj kp hx => k2 j d H' (.bind (.take c1) (.bind e2 (.bind (.take c3) (.bad ev)))) hj (((q1.trans q2).trans q3).trans kp) hx⟩
    unfold At at a4
    subst a4
    obtain ⟨⟨d4, g4⟩, _⟩ := id R4
    have q14 := ((q1.trans q2).trans q3).trans q4
    refine ⟨_, rfl, r, d4, _, rfl, g4, rd_no (by decide +kernel) (by decide +kernel) (by decide +kernel), r, tl, z, L, j4, "(", rfl, R4, hz, fun c5 H5 R5 q5 => ?_, fun c d H' kp hx => k2 j4 d H' (.bind (.take c1) (.bind e2 (.bind (.take c3) (.bind e4 (.bad (.takeN c)))))) p4 (q14.trans kp) hx⟩
    have l5 := nw_lt c5 (by decide +kernel)
    obtain ⟨⟨d5, g5⟩, _⟩ := id R5
    refine ⟨_, rfl, r, d5, _, rfl, g5, rd_no (by decide +kernel) (by decide +kernel) (by decide +kernel), 0, by omega, by omega, r, tl, z, L, j4 + 1, rfl, R5, hz, by omega, fun v6 x6 j6 H6 e6 o6 p6 a6 R6 q6 => ?_, fun j d H' ev hj kp hx => k2 j d H' (.bind (.take c1) (.bind e2 (.bind (.take c3) (.bind e4 (.bind (.take c5) (.bad ev)))))) hj ((q14.trans q5).trans kp) hx⟩
    obtain ⟨⟨d6, g6⟩, _⟩ := id R6
    have q16 := (q14.trans q5).trans q6
    refine ⟨_, rfl, r, d6, _, rfl, g6, rd_no (by decide +kernel) (by decide +kernel) (by decide +kernel), r, tl, z, L, j6, ")", rfl, R6, hz, fun c7 H7 R7 q7 => ?_, fun c d H' kp hx => k2 j6 d H' (.bind (.take c1) (.bind e2 (.bind (.take c3) (.bind e4 (.bind (.take c5) (.bind e6 (.bad (.takeN c)))))))) p6 (q16.trans kp) hx⟩
    have l7 := nw_lt c7 (by decide +kernel)
    obtain ⟨⟨d7, g7⟩, _⟩ := id R7
    refine ⟨_, rfl, r, d7, _, rfl, g7, rd_no (by decide +kernel) (by decide +kernel) (by decide +kernel), r, tl, z, L, j6 + 1, "as", rfl, R7, hz, fun c8 H8 R8 q8 => ?_, fun c d H' kp hx => k2 (j6 + 1) d H' (.bind (.take c1) (.bind e2 (.bind (.take c3) (.bind e4 (.bind (.take c5) (.bind e6 (.bind (.take c7) (.bad (.takeN c))))))))) (by omega) ((q16.trans q7).trans kp) hx⟩
    have l8 := nw_lt c8 (by decide +kernel)
    obtain ⟨⟨d8, g8⟩, _⟩ := id R8
    refine ⟨_, rfl, _, rfl, _, rfl, _, rfl, _, rfl, r, d8, _, rfl, g8, rd_no (by decide +kernel) (by decide +kernel) (by decide +kernel), r, tl, z, L, j6 + 1 + 1, rfl, R8, hz, by omega, fun v9 x9 j9 H9 e9 o9 p9 a9 R9 q9 => ?_, fun j d H' ev hj kp hx => k2 j d H' (.bind (.take c1) (.bind e2 (.bind (.take c3) (.bind e4 (.bind (.take c5) (.bind e6 (.bind (.take c7) (.bind (.take c8) (.bad ev))))))))) hj (((q16.trans q7).trans q8).trans kp) hx⟩
    unfold At at a9
    subst a9
    refine ⟨by show 6 ≤ sizeLine; decide, fun p hp => ?_⟩
    have q19 := ((q16.trans q7).trans q8).trans q9
    have av := At.keep (same_upd (o := .tup [.str "message", .str a, .str x2, .str x4, v6, .str x9]) hp) (At.off q9 g8 (At.off q8 g7 (At.off q7 g6 a6)))
    refine k1 (.ref p) (.msg a x2 x4 x6 x9) j9 _ (.bind (.take c1) (.bind e2 (.bind (.take c3) (.bind e4 (.bind (.take c5) (.bind e6 (.bind (.take c7) (.bind (.take c8) (.bind e9 (.pure _)))))))))) (by omega) p9 ?_ (R9.keep (same_upd hp)) (q19.trans (Kept.of (same_upd hp)))
    unfold Stm.dt At
    refine ⟨p, _, rfl, upd_same, ?_⟩
    simp only [AtL]
    exact ⟨_, _, rfl, by unfold At; rfl, _, _, rfl, by unfold At; rfl, _, _, rfl, by unfold At; rfl, _, _, rfl, by unfold At; rfl, _, _, rfl, av, _, _, rfl, by unfold At; rfl, rfl⟩
theorem ok_read_decision {f : Addr} {fd : FuncData} (F : Fun K "read_decision" "Reader.read_decision" s_Reader_read_decision f fd) (T : Txt K mg) (CR : RdTxt K C) {f_Reader_take : Addr} {d_Reader_take : FuncData} (c_Reader_take : MCalX P w K mg base C 4 "take" ["self", "word"] (spTk C CS) f_Reader_take d_Reader_take) {f_Reader_read_name : Addr} {d_Reader_read_name : FuncData} (c_Reader_read_name : MCalX P w K mg base C 5 "read_name" ["self"] (spRd K C CS [] (fun _ => rname) Dt.str) f_Reader_read_name d_Reader_read_name) {f_Reader_read_value : Addr} {d_Reader_read_value : FuncData} (c_Reader_read_value : MCalX P w K mg base C 57 "read_value" ["self", "brackets"] (spV K C CS 13 rvalue) f_Reader_read_value d_Reader_read_value) : FnOk P w K mg base (L2.CX P w) 58 f fd ["self", "word"] (fun vs H Q E => ∃ a : Str, ¬ a = "" ∧ spRd K C CS [.str a] (fun f => rdec f a) decDt vs H Q E) := by
  refine F.okX sc_Reader_read_decision (fun vs H Q E h => ?_) (fun cdv A outer s H vs Q E hr h => ?_)
  · obtain ⟨a, _, r, tl, z, L, i, rfl, _⟩ := h
    rfl
  · obtain ⟨a, ha, r, tl, z, L, i, rfl, hR, hz, hi, k1, k2⟩ := h
    obtain ⟨⟨dx, h1⟩, _⟩ := id hR
    refine ⟨_, (pss_cons (ps_expr (pe_meth (pv 0) CR.cl c_Reader_take.m c_Reader_take.G (hr.mono (by decide)) c_Reader_take.b .nil (passE (takes_of rfl rfl rfl rfl)) (pa_cons (pv 1) pa_nil)))
      (pss_cons (ps_set (i := 2) sc_Reader_read_decision.nd rfl (.inl rfl) (pe_meth0 (pv 0) CR.cl c_Reader_read_name.m c_Reader_read_name.G (hr.mono (by decide)) c_Reader_read_name.b .nil (passE (takes_of rfl rfl rfl rfl))))
      (pss_cons (ps_expr (pe_meth (pv 0) CR.cl c_Reader_take.m c_Reader_take.G (hr.mono (by decide)) c_Reader_take.b .nil (passE (takes_of rfl rfl rfl rfl)) (pa_cons pe_str pa_nil)))
      (pss_one (ps_ret (pe_tup (pa_cons (pv 2) (pa_cons (pe_meth (pv 0) CR.cl c_Reader_read_value.m c_Reader_read_value.G (hr.mono (by decide)) c_Reader_read_value.b .nil (passE (takes_of rfl rfl rfl rfl)) (pa_cons pe_int pa_nil)) pa_nil)))))))), ?_⟩
    refine ⟨_, rfl, r, dx, _, rfl, h1, rd_no (by decide +kernel) (by decide +kernel) (by decide +kernel), _, rfl, r, tl, z, L, i, a, rfl, hR, hz, fun c1 H1 R1 q1 => ?_, fun c d H' kp hx => k2 i d H' (.bad (.takeN c)) hi kp hx⟩
    have l1 := nw_lt c1 ha
    obtain ⟨⟨d1, g1⟩, _⟩ := id R1
    refine ⟨_, rfl, r, d1, _, rfl, g1, rd_no (by decide +kernel) (by decide +kernel) (by decide +kernel), r, tl, z, L, i + 1, rfl, R1, hz, by omega, fun v2 x2 j2 H2 e2 o2 p2 a2 R2 q2 => ?_, fun j d H' ev hj kp hx => k2 j d H' (.bind (.take c1) (.bad ev)) hj (q1.trans kp) hx⟩
    unfold At at a2
    subst a2
    obtain ⟨⟨d2, g2⟩, _⟩ := id R2
    refine ⟨_, rfl, r, d2, _, rfl, g2, rd_no (by decide +kernel) (by decide +kernel) (by decide +kernel), r, tl, z, L, j2, ":", rfl, R2, hz, fun c3 H3 R3 q3 => ?_, fun c d H' kp hx => k2 j2 d H' (.bind (.take c1) (.bind e2 (.bad (.takeN c)))) p2 ((q1.trans q2).trans kp) hx⟩
    have l3 := nw_lt c3 (by decide +kernel)
    obtain ⟨⟨d3, g3⟩, _⟩ := id R3
    refine ⟨_, rfl, _, rfl, r, d3, _, rfl, g3, rd_no (by decide +kernel) (by decide +kernel) (by decide +kernel), 0, by omega, by omega, r, tl, z, L, j2 + 1, rfl, R3, hz, by omega, fun v4 x4 j4 H4 e4 o4 p4 a4 R4 q4 => ?_, fun j d H' ev hj kp hx => k2 j d H' (.bind (.take c1) (.bind e2 (.bind (.take c3) (.bad ev)))) hj (((q1.trans q2).trans q3).trans kp) hx⟩
    refine ⟨by show 2 ≤ sizeLine; decide, fun p hp => ?_⟩
    have q14 := ((q1.trans q2).trans q3).trans q4
    refine k1 (.ref p) (x2, x4) j4 _ (.bind (.take c1) (.bind e2 (.bind (.take c3) (.bind e4 (.pure _))))) (by omega) p4 ?_ (R4.keep (same_upd hp)) (q14.trans (Kept.of (same_upd hp)))
    unfold decDt At
    refine ⟨p, _, rfl, upd_same, ?_⟩
    simp only [AtL]
    exact ⟨_, _, rfl, by unfold At; rfl, _, _, rfl, At.keep (same_upd hp) a4, rfl⟩
end
end OS

namespace OS
open PySem PySem.Spec PyProof.Rows L2
mutual
def noL : Dt → Bool
  | .lst _ => false
  | .tup xs => noLs xs
  | _ => true
def noLs : List Dt → Bool
  | [] => true
  | d :: ds => noL d && noLs ds
end
theorem Val.noL : ∀ v : Val, OS.noL v.dt = true
  | .num n => by simp [Val.dt, OS.noL, noLs]
  | .name x => by simp [Val.dt, OS.noL, noLs]
  | .op s a b => by simp [Val.dt, OS.noL, noLs, Val.noL a, Val.noL b]
theorem names_noL (es : List Str) : noL (namesDt es) = true := by
  unfold namesDt noL
  induction es with
  | nil => rfl
  | cons x r ih => rw [List.map_cons]; simp [noLs, noL, ih]
mutual
theorem Stm.noL : ∀ s : Stm, OS.noL s.dt = true
  | .msg a b l v x => by simp [Stm.dt, OS.noL, noLs, Val.noL v]
  | .set e x v => by simp [Stm.dt, OS.noL, noLs, Val.noL v]
  | .ask e x => by simp [Stm.dt, OS.noL, noLs]
  | .call p es => by
    have h := names_noL es
    simp [Stm.dt, OS.noL, noLs, h]
  | .ite e v yes no => by simp [Stm.dt, OS.noL, noLs, Val.noL v, blk_noL yes, blk_noL no]
  | .whl e v b => by simp [Stm.dt, OS.noL, noLs, Val.noL v, blk_noL b]
theorem blk_noL : ∀ b : List Stm, noLs (blkDts b) = true
  | [] => by simp [blkDts, noLs]
  | s :: r => by simp [blkDts, noLs, Stm.noL s, blk_noL r]
end
mutual
/-- data without lists stand while a list changes -/
theorem At.offL {K : PySem.W.Frag} {H : Hp} {a : Addr} {xs ys : List V} (ha : H a = some (.lst xs)) : ∀ {d : Dt} {v : V}, noL d = true → At K H d v → At K (upd H a (.lst ys)) d v
  | .non, v, _, h => by unfold At at h ⊢; exact h
  | .bl b, v, _, h => by unfold At at h ⊢; exact h
  | .int i, v, _, h => by unfold At at h ⊢; exact h
  | .str x, v, _, h => by unfold At at h ⊢; exact h
  | .tup ds, v, n, h => by
    unfold At at h ⊢
    unfold noL at n
    obtain ⟨p, vs, e, hp, hl⟩ := h
    exact ⟨p, vs, e, by rw [upd_ne (ne_of hp ha (by intro q; cases q))]; exact hp, AtL.offL ha n hl⟩
  | .lst ds, v, n, h => by
    unfold noL at n
    cases n
theorem AtL.offL {K : PySem.W.Frag} {H : Hp} {a : Addr} {xs ys : List V} (ha : H a = some (.lst xs)) : ∀ {ds : List Dt} {vs : List V}, noLs ds = true → AtL K H ds vs → AtL K (upd H a (.lst ys)) ds vs
  | [], vs, _, h => by unfold AtL at h ⊢; exact h
  | d :: ds, vs, n, h => by
    unfold noLs at n
    rw [Bool.and_eq_true] at n
    unfold AtL at h ⊢
    obtain ⟨v, q, e, hd, hl⟩ := h
    exact ⟨v, q, e, At.offL ha n.1 hd, AtL.offL ha n.2 hl⟩
end
theorem Kept.fresh {r p : Addr} {H H' : Hp} {o : HO} (k : Kept r H H') (hr : H' r = some o) (hp : H' p = none) : H p = none := by
  cases e : H p with
  | none => rfl
  | some u =>
    by_cases hb : p = r
    · subst hb
      rw [hr] at hp
      cases hp
    · rw [k p u hb e] at hp
      cases hp
def spB (K : PySem.W.Frag) (C CS : Addr) {α : Type} (n : Nat) (m : Nat → Nat → Rd α) (dt : α → Dt) : Sp := fun vs H Q E => ∃ b : Nat, b ≤ 12 ∧ 12 < b + n ∧ spRd K C CS [.int b] (fun f => m f b) dt vs H Q E
section
variable {P : Program} {w : World} {K : PySem.W.Frag} {mg : Str → Option Value} {base : Heap} {C CS f_err : Addr} {d_err : FuncData}
theorem block_none {f : Addr} {fd : FuncData} {ps : List Str} : FnOk P w K mg base (L2.CX P w) (58+3*0) f fd ps (spB K C CS 0 rblock blkDt) := by
  have no : ∀ vs H Q E, ¬ spB K C CS 0 rblock blkDt vs H Q E := fun vs H Q E h => by
    obtain ⟨b, h1, h2, _⟩ := h
    omega
  exact ⟨fun vs H Q E h => absurd h (no vs H Q E), fun A outer s H args us vs Q E _ _ _ _ h => absurd h (no vs H Q E)⟩
theorem ok_read_block {f : Addr} {fd : FuncData} (F : Fun K "read_block" "Reader.read_block" s_Reader_read_block f fd) (T : Txt K mg) (CR : RdTxt K C) (hB : ∃ t, mg "MOST_BLOCKS" = some (.int 12 t)) (n : Nat) {f_Reader_next_word : Addr} {d_Reader_next_word : FuncData} (c_Reader_next_word : MCal P w K mg base C 2 "next_word" ["self"] (spNw C) f_Reader_next_word d_Reader_next_word) {f_Reader_take : Addr} {d_Reader_take : FuncData} (c_Reader_take : MCalX P w K mg base C 4 "take" ["self", "word"] (spTk C CS) f_Reader_take d_Reader_take) {f_Reader_fail : Addr} {d_Reader_fail : FuncData} (c_Reader_fail : MCalX P w K mg base C 3 "fail" ["self"] (spFail C CS) f_Reader_fail d_Reader_fail)
    {f_Reader_read_statement : Addr} {d_Reader_read_statement : FuncData} (c_Reader_read_statement : MCalX P w K mg base C (58+3*n+2) "read_statement" ["self", "blocks"] (spB K C CS n rstmt Stm.dt) f_Reader_read_statement d_Reader_read_statement) : FnOk P w K mg base (L2.CX P w) (58+3*n+3) f fd ["self", "blocks"] (spB K C CS (n+1) rblock blkDt) := by
  refine F.okX sc_Reader_read_block (fun vs H Q E h => ?_) (fun cdv A outer s H vs Q E hr h => ?_)
  · obtain ⟨b, _, _, r, tl, z, L, i, rfl, _⟩ := h
    rfl
  · obtain ⟨b, hb12, hbn, r, tl, z, L, i, rfl, hR, hz, hi, k1, k2⟩ := h
    obtain ⟨⟨dx, h1⟩, _⟩ := id hR
    obtain ⟨tB, m_MOST_BLOCKS⟩ := hB
    have st : ∀ {res : Res (List Stm)}, Evn (fun f => if 12 ≤ b then rfail else rbind (rtake "{") fun _ => rblockL f b []) (toks2 z L) i res → Evn (fun f => rblock f b) (toks2 z L) i res := fun h => .step h fun f => by rw [rblock]
    have sl : ∀ {acc : List Stm} {j : Nat} {res : Res (List Stm)}, Evn (fun f => rbind rpeek fun w => if w = "}" then rbind (rtake "}") fun _ => rpure acc else rbind (rstmt f (b + 1)) fun s => rblockL f b (acc ++ [s])) (toks2 z L) j res → Evn (fun f => rblockL f b acc) (toks2 z L) j res := fun h => .step h fun f => by rw [rblockL]
    refine ⟨_, (pss_cons (ps_if (pt_cmpR op_ge (pv 1) (pe_glob rfl m_MOST_BLOCKS relI) (nomark _)) (pss_one (ps_expr (pe_meth0 (pv 0) CR.cl c_Reader_fail.m c_Reader_fail.G (hr.mono (by omega)) c_Reader_fail.b .nil (passE (takes_of rfl rfl rfl rfl))))) pss_nil)
      (pss_cons (ps_expr (pe_meth (pv 0) CR.cl c_Reader_take.m c_Reader_take.G (hr.mono (by omega)) c_Reader_take.b .nil (passE (takes_of rfl rfl rfl rfl)) (pa_cons pe_str pa_nil)))
      (pss_cons (ps_set (i := 2) sc_Reader_read_block.nd rfl (.inl rfl) (pe_lst pa_nil))
      (pss_cons (ps_while (passes_of rfl) (pt_cmpR op_ne (pe_meth0 (pv 0) CR.cl c_Reader_next_word.m c_Reader_next_word.G (hr.mono (by omega)) c_Reader_next_word.b .nil pass0) pe_str (nomark _)) (pss_one (ps_expr (pe_bm PySem.F.plainAttrs_list PySem.F.slot_list_append PySem.F.type_list_append mt_append (pv 2) (pa_cons (pe_meth (pv 0) CR.cl c_Reader_read_statement.m c_Reader_read_statement.G (hr.mono (by omega)) c_Reader_read_statement.b .nil (passE (takes_of rfl rfl rfl rfl)) (pa_cons (pe_op op_add (pv 1) pe_int) pa_nil)) pa_nil)))))
      (pss_cons (ps_expr (pe_meth (pv 0) CR.cl c_Reader_take.m c_Reader_take.G (hr.mono (by omega)) c_Reader_take.b .nil (passE (takes_of rfl rfl rfl rfl)) (pa_cons pe_str pa_nil)))
      (pss_one (ps_ret (pe_callTy call_tuple_of (by rfl) T.tuple (by decide +kernel) (pa_cons (pv 2) pa_nil))))))))), ?_⟩
    refine ⟨_, rfl, _, _, rfl, rfl, _, rfl, ?_⟩
    by_cases c0 : 12 ≤ b
    · rw [decide_eq_true (show (12 : Int) ≤ (b : Int) by omega)]
      refine iteT ?_
      exact ⟨_, rfl, r, dx, _, rfl, h1, rd_no (by decide +kernel) (by decide +kernel) (by decide +kernel), r, tl, z, L, i, rfl, hR, hz, fun d H' kp hx => k2 i d H' (st (.ifT c0 (.const rfl))) hi kp hx⟩
    · rw [decide_eq_false (show ¬ (12 : Int) ≤ (b : Int) by omega)]
      refine iteF ?_
      refine ⟨_, rfl, r, dx, _, rfl, h1, rd_no (by decide +kernel) (by decide +kernel) (by decide +kernel), r, tl, z, L, i, "{", rfl, hR, hz, fun c1 H1 R1 q1 => ?_, fun c d H' kp hx => k2 i d H' (st (.ifF c0 (.bad (.takeN c)))) hi kp hx⟩
      have l1 := nw_lt c1 (by decide +kernel)
      obtain ⟨⟨d1, g1⟩, _⟩ := id R1
      refine ⟨Nat.zero_le _, fun nl hn => ?_⟩
      have hn0 := q1.fresh g1 hn
      have hnt : nl ≠ tl := by
        obtain ⟨ps, h2, _⟩ := hR.tk
        exact (ne_of_none h2 hn0).symm
      refine ⟨fun m σ H' => ∃ (j : Nat) (acc : List Stm) (vs : List V), σ = [some (.ref r), some (.int b), some (.ref nl)] ∧ RdAt C r tl z L H' j ∧ H' nl = some (.lst vs) ∧ AtL K H' (blkDts acc) vs ∧ Kept r H H' ∧ i < j ∧ j ≤ L.length ∧ m = L.length - j ∧ acc.length ≤ j ∧
        ∀ res, Evn (fun f => rblockL f b acc) (toks2 z L) j res → Evn (fun f => rblock f b) (toks2 z L) i res,
        ⟨L.length - (i + 1), i + 1, [], [], rfl, R1.keep (same_upd hn), upd_same, by simp only [blkDts, AtL], q1.upd hn0, by omega, by omega, rfl, Nat.zero_le _, fun res h => st (.ifF c0 (.bind (.take c1) h))⟩, ?_⟩
      rintro m σ H' ⟨j, acc, vs, rfl, R2, hl, hat, kp, hij, hj, rfl, hal, hc⟩
      obtain ⟨⟨dy, g2⟩, _⟩ := id R2
      have nlr : nl ≠ r := ne_of hl g2 (by intro q; cases q)
      refine ⟨_, rfl, r, dy, _, rfl, g2, rd_no (by decide +kernel) (by decide +kernel) (by decide +kernel), r, tl, z, L, j, rfl, R2, hz, rfl, _, rfl, ?_⟩
      rw [str_dec]
      by_cases c : nw (toks2 z L) j = "}"
      · have hjl := nw_lt c (by decide +kernel)
        rw [decide_eq_true c]
        refine iteF ?_
        refine ⟨_, rfl, r, dy, _, rfl, g2, rd_no (by decide +kernel) (by decide +kernel) (by decide +kernel), r, tl, z, L, j, "}", rfl, R2, hz, fun _ H3 R3 q3 => ?_, fun q => absurd c q⟩
        have hl3 := q3 nl _ nlr hl
        refine ⟨_, rfl, nl, _, rfl, .inl ⟨SqL.of hl3, fun tp htp => ?_⟩⟩
        refine k1 (.ref tp) acc (j + 1) _ (hc _ (sl (.peek (.ifT c (.bind (.take c) (.pure acc)))))) (by omega) (by omega) ?_ (R3.keep (same_upd htp)) ((kp.trans q3).trans (Kept.of (same_upd htp)))
        unfold blkDt At
        exact ⟨tp, _, rfl, upd_same, AtL.keep (same_upd htp) (AtL.off q3 g2 hat)⟩
      · rw [decide_eq_false c]
        refine iteT ⟨_, fun _ _ h => h, ?_⟩
        refine ⟨_, rfl, .inl ⟨rfl, _, SqL.of hl⟩, ?_⟩
        refine ⟨_, rfl, r, dy, _, rfl, g2, rd_no (by decide +kernel) (by decide +kernel) (by decide +kernel), _, rfl, _, _, rfl, rfl, b + 1, by omega, by omega, r, tl, z, L, j, rfl, R2, hz, hj, fun v sm j4 H4 ev4 hij4 hj4 hat4 R4 q4 => ?_,
          fun j4 d H4 ev4 hj4 q4 hx => k2 j4 d H4 (hc _ (sl (.peek (.ifF c (.bad ev4))))) hj4 (kp.trans q4) hx⟩
        have hl4 := q4 nl _ nlr hl
        have av := AtL.off q4 g2 hat
        refine ⟨nl, _, _, rfl, rfl, hl4, ?_, ?_⟩
        · have e1 := av.length
          have e2 : (blkDts acc).length = acc.length := blkDts_len acc
          rw [e1, e2]
          exact sz6' (by have := hz.few; omega)
        · refine ⟨L.length - j4, by omega, j4, acc ++ [sm], _, rfl, R4.put nlr hl4 hnt, upd_same, ?_, (kp.trans q4).upd hn0, by omega, hj4, rfl, ?_, fun res h => ?_⟩
          · rw [blkDts_snoc]
            exact AtL.snoc (At.offL hl4 (Stm.noL sm) hat4) (AtL.offL hl4 (blk_noL acc) av)
          · rw [List.length_append]
            show acc.length + 1 ≤ j4
            omega
          · exact hc res (sl (.peek (.ifF c (.bind ev4 h))))
theorem ok_read_if {f : Addr} {fd : FuncData} (F : Fun K "read_if" "Reader.read_if" s_Reader_read_if f fd) (T : Txt K mg) (CR : RdTxt K C) (n : Nat) {f_Reader_take : Addr} {d_Reader_take : FuncData} (c_Reader_take : MCalX P w K mg base C 4 "take" ["self", "word"] (spTk C CS) f_Reader_take d_Reader_take) {f_Reader_read_decision : Addr} {d_Reader_read_decision : FuncData} (c_Reader_read_decision : MCalX P w K mg base C 58 "read_decision" ["self", "word"] (fun vs H Q E => ∃ a : Str, ¬ a = "" ∧ spRd K C CS [.str a] (fun f => rdec f a) decDt vs H Q E) f_Reader_read_decision d_Reader_read_decision)
    {f_Reader_read_block : Addr} {d_Reader_read_block : FuncData} (c_Reader_read_block : MCalX P w K mg base C (58+3*n) "read_block" ["self", "blocks"] (spB K C CS n rblock blkDt) f_Reader_read_block d_Reader_read_block) : FnOk P w K mg base (L2.CX P w) (58+3*n+1) f fd ["self", "blocks"] (spB K C CS n rif Stm.dt) := by
  refine F.okX sc_Reader_read_if (fun vs H Q E h => ?_) (fun cdv A outer s H vs Q E hr h => ?_)
  · obtain ⟨b, _, _, r, tl, z, L, i, rfl, _⟩ := h
    rfl
  · obtain ⟨b, hb12, hbn, r, tl, z, L, i, rfl, hR, hz, hi, k1, k2⟩ := h
    obtain ⟨⟨dx, h1⟩, _⟩ := id hR
    have st : ∀ {res : Res Stm}, Evn (fun f => rbind (rdec f "if") fun ev => rbind (rblock f b) fun yes => rbind (rtake "else") fun _ => rbind (rblock f b) fun no => rpure (.ite ev.1 ev.2 yes no)) (toks2 z L) i res → Evn (fun f => rif f b) (toks2 z L) i res := fun h => .step h fun f => by rw [rif]
    refine ⟨_, (pss_cons (ps_asg (pe_meth (pv 0) CR.cl c_Reader_read_decision.m c_Reader_read_decision.G (hr.mono (by omega)) c_Reader_read_decision.b .nil (passE (takes_of rfl rfl rfl rfl)) (pa_cons pe_str pa_nil)) (pg_tup (by rfl) (pgs_cons (pg_name (i := 2) sc_Reader_read_if.nd rfl (.inl rfl)) (pgs_cons (pg_name (i := 3) sc_Reader_read_if.nd rfl (.inl rfl)) pgs_nil))))
      (pss_cons (ps_set (i := 4) sc_Reader_read_if.nd rfl (.inl rfl) (pe_meth (pv 0) CR.cl c_Reader_read_block.m c_Reader_read_block.G (hr.mono (by omega)) c_Reader_read_block.b .nil (passE (takes_of rfl rfl rfl rfl)) (pa_cons (pv 1) pa_nil)))
      (pss_cons (ps_expr (pe_meth (pv 0) CR.cl c_Reader_take.m c_Reader_take.G (hr.mono (by omega)) c_Reader_take.b .nil (passE (takes_of rfl rfl rfl rfl)) (pa_cons pe_str pa_nil)))
      (pss_one (ps_ret (pe_tup (pa_cons pe_str (pa_cons (pv 2) (pa_cons (pv 3) (pa_cons (pv 4) (pa_cons (pe_meth (pv 0) CR.cl c_Reader_read_block.m c_Reader_read_block.G (hr.mono (by omega)) c_Reader_read_block.b .nil (passE (takes_of rfl rfl rfl rfl)) (pa_cons (pv 1) pa_nil)) pa_nil))))))))))), ?_⟩
    refine ⟨_, rfl, r, dx, _, rfl, h1, rd_no (by decide +kernel) (by decide +kernel) (by decide +kernel), "if", by decide +kernel, r, tl, z, L, i, rfl, hR, hz, hi, fun v1 x1 j1 H1 e1 o1 p1 a1 R1 q1 => ?_, fun j d H' ev hj kp hx => k2 j d H' (st (.bad ev)) hj kp hx⟩
    unfold decDt At at a1
    obtain ⟨p, vs, rfl, hp, al⟩ := a1
    simp only [AtL] at al
    obtain ⟨u1, rr, rfl, b1, u2, rr2, rfl, b2, rfl⟩ := al
    unfold At at b1
    subst b1
    refine ⟨p, _, rfl, SqT.of hp, rfl, _, _, rfl, _, _, rfl, rfl, ?_⟩
    obtain ⟨⟨d1, g1⟩, _⟩ := id R1
    refine ⟨_, rfl, r, d1, _, rfl, g1, rd_no (by decide +kernel) (by decide +kernel) (by decide +kernel), _, rfl, b, hb12, hbn, r, tl, z, L, j1, rfl, R1, hz, p1, fun v2 x2 j2 H2 e2 o2 p2 a2 R2 q2 => ?_, fun j d H' ev hj kp hx => k2 j d H' (st (.bind e1 (.bad ev))) hj (q1.trans kp) hx⟩
    obtain ⟨⟨d2, g2⟩, _⟩ := id R2
    refine ⟨_, rfl, r, d2, _, rfl, g2, rd_no (by decide +kernel) (by decide +kernel) (by decide +kernel), r, tl, z, L, j2, "else", rfl, R2, hz, fun c3 H3 R3 q3 => ?_, fun c d H' kp hx => k2 j2 d H' (st (.bind e1 (.bind e2 (.bad (.takeN c))))) p2 ((q1.trans q2).trans kp) hx⟩
    have l3 := nw_lt c3 (by decide +kernel)
    obtain ⟨⟨d3, g3⟩, _⟩ := id R3
    refine ⟨_, rfl, _, rfl, _, rfl, _, rfl, r, d3, _, rfl, g3, rd_no (by decide +kernel) (by decide +kernel) (by decide +kernel), _, rfl, b, hb12, hbn, r, tl, z, L, j2 + 1, rfl, R3, hz, by omega, fun v4 x4 j4 H4 e4 o4 p4 a4 R4 q4 => ?_, fun j d H' ev hj kp hx => k2 j d H' (st (.bind e1 (.bind e2 (.bind (.take c3) (.bad ev))))) hj (((q1.trans q2).trans q3).trans kp) hx⟩
    refine ⟨by show 5 ≤ sizeLine; decide, fun t ht => ?_⟩
    refine k1 (.ref t) (.ite x1.1 x1.2 x2 x4) j4 _ (st (.bind e1 (.bind e2 (.bind (.take c3) (.bind e4 (.pure _)))))) (by omega) p4 ?_ (R4.keep (same_upd ht)) ((((q1.trans q2).trans q3).trans q4).trans (Kept.of (same_upd ht)))
    have av := At.keep (same_upd ht (o := .tup [.str "if", .str x1.1, u2, v2, v4])) (At.off q4 g3 (At.off q3 g2 (At.off q2 g1 b2)))
    have ay := At.keep (same_upd ht (o := .tup [.str "if", .str x1.1, u2, v2, v4])) (At.off q4 g3 (At.off q3 g2 a2))
    have an := At.keep (same_upd ht (o := .tup [.str "if", .str x1.1, u2, v2, v4])) a4
    unfold Stm.dt
    unfold blkDt at ay an
    rw [At]
    refine ⟨t, _, rfl, upd_same, ?_⟩
    simp only [AtL]
    exact ⟨_, _, rfl, by unfold At; rfl, _, _, rfl, by unfold At; rfl, _, _, rfl, av, _, _, rfl, ay, _, _, rfl, an, rfl⟩
theorem ok_read_while {f : Addr} {fd : FuncData} (F : Fun K "read_while" "Reader.read_while" s_Reader_read_while f fd) (T : Txt K mg) (CR : RdTxt K C) (n : Nat) {f_Reader_read_decision : Addr} {d_Reader_read_decision : FuncData} (c_Reader_read_decision : MCalX P w K mg base C 58 "read_decision" ["self", "word"] (fun vs H Q E => ∃ a : Str, ¬ a = "" ∧ spRd K C CS [.str a] (fun f => rdec f a) decDt vs H Q E) f_Reader_read_decision d_Reader_read_decision)
    {f_Reader_read_block : Addr} {d_Reader_read_block : FuncData} (c_Reader_read_block : MCalX P w K mg base C (58+3*n) "read_block" ["self", "blocks"] (spB K C CS n rblock blkDt) f_Reader_read_block d_Reader_read_block) : FnOk P w K mg base (L2.CX P w) (58+3*n+1) f fd ["self", "blocks"] (spB K C CS n rwhile Stm.dt) := by
  refine F.okX sc_Reader_read_while (fun vs H Q E h => ?_) (fun cdv A outer s H vs Q E hr h => ?_)
  · obtain ⟨b, _, _, r, tl, z, L, i, rfl, _⟩ := h
    rfl
  · obtain ⟨b, hb12, hbn, r, tl, z, L, i, rfl, hR, hz, hi, k1, k2⟩ := h
    obtain ⟨⟨dx, h1⟩, _⟩ := id hR
    have st : ∀ {res : Res Stm}, Evn (fun f => rbind (rdec f "while") fun ev => rbind (rblock f b) fun bl => rpure (.whl ev.1 ev.2 bl)) (toks2 z L) i res → Evn (fun f => rwhile f b) (toks2 z L) i res := fun h => .step h fun f => by rw [rwhile]
    refine ⟨_, (pss_cons (ps_asg (pe_meth (pv 0) CR.cl c_Reader_read_decision.m c_Reader_read_decision.G (hr.mono (by omega)) c_Reader_read_decision.b .nil (passE (takes_of rfl rfl rfl rfl)) (pa_cons pe_str pa_nil)) (pg_tup (by rfl) (pgs_cons (pg_name (i := 2) sc_Reader_read_while.nd rfl (.inl rfl)) (pgs_cons (pg_name (i := 3) sc_Reader_read_while.nd rfl (.inl rfl)) pgs_nil))))
      (pss_one (ps_ret (pe_tup (pa_cons pe_str (pa_cons (pv 2) (pa_cons (pv 3) (pa_cons (pe_meth (pv 0) CR.cl c_Reader_read_block.m c_Reader_read_block.G (hr.mono (by omega)) c_Reader_read_block.b .nil (passE (takes_of rfl rfl rfl rfl)) (pa_cons (pv 1) pa_nil)) pa_nil)))))))), ?_⟩
    refine ⟨_, rfl, r, dx, _, rfl, h1, rd_no (by decide +kernel) (by decide +kernel) (by decide +kernel), "while", by decide +kernel, r, tl, z, L, i, rfl, hR, hz, hi, fun v1 x1 j1 H1 e1 o1 p1 a1 R1 q1 => ?_, fun j d H' ev hj kp hx => k2 j d H' (st (.bad ev)) hj kp hx⟩
    unfold decDt At at a1
    obtain ⟨p, vs, rfl, hp, al⟩ := a1
    simp only [AtL] at al
    obtain ⟨u1, rr, rfl, b1, u2, rr2, rfl, b2, rfl⟩ := al
    unfold At at b1
    subst b1
    refine ⟨p, _, rfl, SqT.of hp, rfl, _, _, rfl, _, _, rfl, rfl, ?_⟩
    obtain ⟨⟨d1, g1⟩, _⟩ := id R1
    refine ⟨_, rfl, _, rfl, _, rfl, r, d1, _, rfl, g1, rd_no (by decide +kernel) (by decide +kernel) (by decide +kernel), _, rfl, b, hb12, hbn, r, tl, z, L, j1, rfl, R1, hz, p1, fun v2 x2 j2 H2 e2 o2 p2 a2 R2 q2 => ?_, fun j d H' ev hj kp hx => k2 j d H' (st (.bind e1 (.bad ev))) hj (q1.trans kp) hx⟩
    refine ⟨by show 4 ≤ sizeLine; decide, fun t ht => ?_⟩
    refine k1 (.ref t) (.whl x1.1 x1.2 x2) j2 _ (st (.bind e1 (.bind e2 (.pure _)))) (by omega) p2 ?_ (R2.keep (same_upd ht)) ((q1.trans q2).trans (Kept.of (same_upd ht)))
    have av := At.keep (same_upd ht (o := .tup [.str "while", .str x1.1, u2, v2])) (At.off q2 g1 b2)
    have ay := At.keep (same_upd ht (o := .tup [.str "while", .str x1.1, u2, v2])) a2
    unfold Stm.dt
    unfold blkDt at ay
    rw [At]
    refine ⟨t, _, rfl, upd_same, ?_⟩
    simp only [AtL]
    exact ⟨_, _, rfl, by unfold At; rfl, _, _, rfl, by unfold At; rfl, _, _, rfl, av, _, _, rfl, ay, rfl⟩
end
end OS

namespace OS
open PySem PySem.Spec PyProof.Rows L2
section
variable {P : Program} {w : World} {K : PySem.W.Frag} {mg : Str → Option Value} {base : Heap} {C CS f_err : Addr} {d_err : FuncData}
theorem names_keep {K : PySem.W.Frag} {r C dx : Addr} {fs : List (Str × V)} {H H' : Hp} {es : List Str} {v : V} (q : Kept r H H') (g : H r = some (.ins C dx fs)) (h : At K H (namesDt es) v) : At K H' (namesDt es) v := At.off q g h
theorem ok_read_statement {f : Addr} {fd : FuncData} (F : Fun K "read_statement" "Reader.read_statement" s_Reader_read_statement f fd) (T : Txt K mg) (CR : RdTxt K C) (n : Nat) {f_Reader_next_word : Addr} {d_Reader_next_word : FuncData} (c_Reader_next_word : MCal P w K mg base C 2 "next_word" ["self"] (spNw C) f_Reader_next_word d_Reader_next_word) {f_Reader_take : Addr} {d_Reader_take : FuncData} (c_Reader_take : MCalX P w K mg base C 4 "take" ["self", "word"] (spTk C CS) f_Reader_take d_Reader_take) {f_Reader_read_name : Addr} {d_Reader_read_name : FuncData} (c_Reader_read_name : MCalX P w K mg base C 5 "read_name" ["self"] (spRd K C CS [] (fun _ => rname) Dt.str) f_Reader_read_name d_Reader_read_name) {f_Reader_read_names_in_brackets : Addr} {d_Reader_read_names_in_brackets : FuncData} (c_Reader_read_names_in_brackets : MCalX P w K mg base C 7 "read_names_in_brackets" ["self"] (spRd K C CS [] rnamesB namesDt) f_Reader_read_names_in_brackets d_Reader_read_names_in_brackets)
    {f_Reader_read_message : Addr} {d_Reader_read_message : FuncData} (c_Reader_read_message : MCalX P w K mg base C 58 "read_message" ["self", "sender"] (spM K C CS (fun a f => rmsg f a) Stm.dt) f_Reader_read_message d_Reader_read_message) {f_Reader_read_value : Addr} {d_Reader_read_value : FuncData} (c_Reader_read_value : MCalX P w K mg base C 57 "read_value" ["self", "brackets"] (spV K C CS 13 rvalue) f_Reader_read_value d_Reader_read_value) {f_Reader_read_if : Addr} {d_Reader_read_if : FuncData} (c_Reader_read_if : MCalX P w K mg base C (58+3*n+1) "read_if" ["self", "blocks"] (spB K C CS n rif Stm.dt) f_Reader_read_if d_Reader_read_if) {f_Reader_read_while : Addr} {d_Reader_read_while : FuncData} (c_Reader_read_while : MCalX P w K mg base C (58+3*n+1) "read_while" ["self", "blocks"] (spB K C CS n rwhile Stm.dt) f_Reader_read_while d_Reader_read_while) : FnOk P w K mg base (L2.CX P w) (58+3*n+2) f fd ["self", "blocks"] (spB K C CS n rstmt Stm.dt) := by
  refine F.okX sc_Reader_read_statement (fun vs H Q E h => ?_) (fun cdv A outer s H vs Q E hr h => ?_)
  · obtain ⟨b, _, _, r, tl, z, L, i, rfl, _⟩ := h
    rfl
  · obtain ⟨b, hb12, hbn, r, tl, z, L, i, rfl, hR, hz, hi, k1, k2⟩ := h
    obtain ⟨⟨dx, h1⟩, _⟩ := id hR
    have st : ∀ {res : Res Stm}, Evn (fun f => rbind rpeek fun w => if w = "if" then rif f b else if w = "while" then rwhile f b
      else if w = "call" then rbind (rtake "call") fun _ => rbind rname fun n => rbind (rnamesB f) fun es => rpure (.call n es)
      else rbind rname fun e => rbind rpeek fun w2 => if w2 = "->" then rmsg f e
        else if w2 = "sets" then rbind (rtake "sets") fun _ => rbind rname fun x => rbind (rtake "=") fun _ => rbind (rvalue f 0) fun v => rpure (.set e x v)
        else rbind (rtake "asks") fun _ => rbind rname fun x => rpure (.ask e x)) (toks2 z L) i res → Evn (fun f => rstmt f b) (toks2 z L) i res := fun h => .step h fun f => by rw [rstmt]
    refine ⟨_, (pss_cons (ps_set (i := 2) sc_Reader_read_statement.nd rfl (.inl rfl) (pe_meth0 (pv 0) CR.cl c_Reader_next_word.m c_Reader_next_word.G (hr.mono (by omega)) c_Reader_next_word.b .nil pass0))
      (pss_cons (ps_if (pt_cmpR op_eq (pv 2) pe_str (nomark _)) (pss_one (ps_ret (pe_meth (pv 0) CR.cl c_Reader_read_if.m c_Reader_read_if.G (hr.mono (by omega)) c_Reader_read_if.b .nil (passE (takes_of rfl rfl rfl rfl)) (pa_cons (pv 1) pa_nil)))) pss_nil)
      (pss_cons (ps_if (pt_cmpR op_eq (pv 2) pe_str (nomark _)) (pss_one (ps_ret (pe_meth (pv 0) CR.cl c_Reader_read_while.m c_Reader_read_while.G (hr.mono (by omega)) c_Reader_read_while.b .nil (passE (takes_of rfl rfl rfl rfl)) (pa_cons (pv 1) pa_nil)))) pss_nil)
      (pss_cons (ps_if (pt_cmpR op_eq (pv 2) pe_str (nomark _)) (pss_cons (ps_expr (pe_meth (pv 0) CR.cl c_Reader_take.m c_Reader_take.G (hr.mono (by omega)) c_Reader_take.b .nil (passE (takes_of rfl rfl rfl rfl)) (pa_cons pe_str pa_nil)))
      (pss_one (ps_ret (pe_tup (pa_cons pe_str (pa_cons (pe_meth0 (pv 0) CR.cl c_Reader_read_name.m c_Reader_read_name.G (hr.mono (by omega)) c_Reader_read_name.b .nil (passE (takes_of rfl rfl rfl rfl))) (pa_cons (pe_meth0 (pv 0) CR.cl c_Reader_read_names_in_brackets.m c_Reader_read_names_in_brackets.G (hr.mono (by omega)) c_Reader_read_names_in_brackets.b .nil (passE (takes_of rfl rfl rfl rfl))) pa_nil))))))) pss_nil)
      (pss_cons (ps_set (i := 3) sc_Reader_read_statement.nd rfl (.inl rfl) (pe_meth0 (pv 0) CR.cl c_Reader_read_name.m c_Reader_read_name.G (hr.mono (by omega)) c_Reader_read_name.b .nil (passE (takes_of rfl rfl rfl rfl))))
      (pss_cons (ps_if (pt_cmpR op_eq (pe_meth0 (pv 0) CR.cl c_Reader_next_word.m c_Reader_next_word.G (hr.mono (by omega)) c_Reader_next_word.b .nil pass0) pe_str (nomark _)) (pss_one (ps_ret (pe_meth (pv 0) CR.cl c_Reader_read_message.m c_Reader_read_message.G (hr.mono (by omega)) c_Reader_read_message.b .nil (passE (takes_of rfl rfl rfl rfl)) (pa_cons (pv 3) pa_nil)))) pss_nil)
      (pss_cons (ps_if (pt_cmpR op_eq (pe_meth0 (pv 0) CR.cl c_Reader_next_word.m c_Reader_next_word.G (hr.mono (by omega)) c_Reader_next_word.b .nil pass0) pe_str (nomark _)) (pss_cons (ps_expr (pe_meth (pv 0) CR.cl c_Reader_take.m c_Reader_take.G (hr.mono (by omega)) c_Reader_take.b .nil (passE (takes_of rfl rfl rfl rfl)) (pa_cons pe_str pa_nil)))
      (pss_cons (ps_set (i := 4) sc_Reader_read_statement.nd rfl (.inl rfl) (pe_meth0 (pv 0) CR.cl c_Reader_read_name.m c_Reader_read_name.G (hr.mono (by omega)) c_Reader_read_name.b .nil (passE (takes_of rfl rfl rfl rfl))))
      (pss_cons (ps_expr (pe_meth (pv 0) CR.cl c_Reader_take.m c_Reader_take.G (hr.mono (by omega)) c_Reader_take.b .nil (passE (takes_of rfl rfl rfl rfl)) (pa_cons pe_str pa_nil)))
      (pss_one (ps_ret (pe_tup (pa_cons pe_str (pa_cons (pv 3) (pa_cons (pv 4) (pa_cons (pe_meth (pv 0) CR.cl c_Reader_read_value.m c_Reader_read_value.G (hr.mono (by omega)) c_Reader_read_value.b .nil (passE (takes_of rfl rfl rfl rfl)) (pa_cons pe_int pa_nil)) pa_nil)))))))))) pss_nil)
      (pss_cons (ps_expr (pe_meth (pv 0) CR.cl c_Reader_take.m c_Reader_take.G (hr.mono (by omega)) c_Reader_take.b .nil (passE (takes_of rfl rfl rfl rfl)) (pa_cons pe_str pa_nil)))
      (pss_one (ps_ret (pe_tup (pa_cons pe_str (pa_cons (pv 3) (pa_cons (pe_meth0 (pv 0) CR.cl c_Reader_read_name.m c_Reader_read_name.G (hr.mono (by omega)) c_Reader_read_name.b .nil (passE (takes_of rfl rfl rfl rfl))) pa_nil)))))))))))))), ?_⟩
    refine ⟨_, rfl, r, dx, _, rfl, h1, rd_no (by decide +kernel) (by decide +kernel) (by decide +kernel), r, tl, z, L, i, rfl, hR, hz, ?_⟩
    refine ⟨_, rfl, rfl, _, rfl, ?_⟩
    rw [str_dec]
    by_cases ci : nw (toks2 z L) i = "if"
    · rw [decide_eq_true ci]
      refine iteT ⟨_, rfl, r, dx, _, rfl, h1, rd_no (by decide +kernel) (by decide +kernel) (by decide +kernel), _, rfl, b, hb12, hbn, r, tl, z, L, i, rfl, hR, hz, hi, fun v x j H' ev hij hj hat R' kp => ?_, fun j d H' ev hj kp hx => ?_⟩
      · exact k1 v x j H' (st (.peek (.ifT ci ev))) hij hj hat R' kp
      · exact k2 j d H' (st (.peek (.ifT ci ev))) hj kp hx
    rw [decide_eq_false ci]
    refine iteF ⟨_, rfl, rfl, _, rfl, ?_⟩
    rw [str_dec]
    by_cases cw : nw (toks2 z L) i = "while"
    · rw [decide_eq_true cw]
      refine iteT ⟨_, rfl, r, dx, _, rfl, h1, rd_no (by decide +kernel) (by decide +kernel) (by decide +kernel), _, rfl, b, hb12, hbn, r, tl, z, L, i, rfl, hR, hz, hi, fun v x j H' ev hij hj hat R' kp => ?_, fun j d H' ev hj kp hx => ?_⟩
      · exact k1 v x j H' (st (.peek (.ifF ci (.ifT cw ev)))) hij hj hat R' kp
      · exact k2 j d H' (st (.peek (.ifF ci (.ifT cw ev)))) hj kp hx
    rw [decide_eq_false cw]
    refine iteF ⟨_, rfl, rfl, _, rfl, ?_⟩
    rw [str_dec]
    by_cases cc : nw (toks2 z L) i = "call"
    · rw [decide_eq_true cc]
      have lc := nw_lt cc (by decide +kernel)
      refine iteT ⟨_, rfl, r, dx, _, rfl, h1, rd_no (by decide +kernel) (by decide +kernel) (by decide +kernel), r, tl, z, L, i, "call", rfl, hR, hz, fun _ H1 R1 q1 => ?_, fun q => absurd cc q⟩
      obtain ⟨⟨d1, g1⟩, _⟩ := id R1
      refine ⟨_, rfl, r, d1, _, rfl, g1, rd_no (by decide +kernel) (by decide +kernel) (by decide +kernel), r, tl, z, L, i + 1, rfl, R1, hz, by omega, fun v2 x2 j2 H2 e2 o2 p2 a2 R2 q2 => ?_, fun j d H' ev hj kp hx => k2 j d H' (st (.peek (.ifF ci (.ifF cw (.ifT cc (.bind (.take cc) (.bad ev))))))) hj (q1.trans kp) hx⟩
      unfold At at a2
      subst a2
      obtain ⟨⟨d2, g2⟩, _⟩ := id R2
      refine ⟨_, rfl, r, d2, _, rfl, g2, rd_no (by decide +kernel) (by decide +kernel) (by decide +kernel), r, tl, z, L, j2, rfl, R2, hz, p2, fun v3 x3 j3 H3 e3 o3 p3 a3 R3 q3 => ?_, fun j d H' ev hj kp hx => k2 j d H' (st (.peek (.ifF ci (.ifF cw (.ifT cc (.bind (.take cc) (.bind e2 (.bad ev)))))))) hj ((q1.trans q2).trans kp) hx⟩
      refine ⟨by show 3 ≤ sizeLine; decide, fun t ht => ?_⟩
      refine k1 (.ref t) (.call x2 x3) j3 _ (st (.peek (.ifF ci (.ifF cw (.ifT cc (.bind (.take cc) (.bind e2 (.bind e3 (.pure _))))))))) (by omega) p3 ?_ (R3.keep (same_upd ht)) (((q1.trans q2).trans q3).trans (Kept.of (same_upd ht)))
      have an := At.keep (same_upd ht (o := .tup [.str "call", .str x2, v3])) a3
      unfold Stm.dt
      rw [At]
      refine ⟨t, _, rfl, upd_same, ?_⟩
      simp only [AtL]
      exact ⟨_, _, rfl, by unfold At; rfl, _, _, rfl, by unfold At; rfl, _, _, rfl, an, rfl⟩
    rw [decide_eq_false cc]
    refine iteF ?_
    refine ⟨_, rfl, r, dx, _, rfl, h1, rd_no (by decide +kernel) (by decide +kernel) (by decide +kernel), r, tl, z, L, i, rfl, hR, hz, hi, fun v1 x1 j1 H1 e1 o1 p1 a1 R1 q1 => ?_, fun j d H' ev hj kp hx => k2 j d H' (st (.peek (.ifF ci (.ifF cw (.ifF cc (.bad ev)))))) hj kp hx⟩
    unfold At at a1
    subst a1
    obtain ⟨⟨d1, g1⟩, _⟩ := id R1
    refine ⟨_, rfl, r, d1, _, rfl, g1, rd_no (by decide +kernel) (by decide +kernel) (by decide +kernel), r, tl, z, L, j1, rfl, R1, hz, rfl, _, rfl, ?_⟩
    rw [str_dec]
    by_cases cm : nw (toks2 z L) j1 = "->"
    · rw [decide_eq_true cm]
      refine iteT ⟨_, rfl, r, d1, _, rfl, g1, rd_no (by decide +kernel) (by decide +kernel) (by decide +kernel), _, rfl, x1, r, tl, z, L, j1, rfl, R1, hz, p1, fun v x j H' ev hij hj hat R' kp => ?_, fun j d H' ev hj kp hx => ?_⟩
      · exact k1 v x j H' (st (.peek (.ifF ci (.ifF cw (.ifF cc (.bind e1 (.peek (.ifT cm ev)))))))) (by omega) hj hat R' (q1.trans kp)
      · exact k2 j d H' (st (.peek (.ifF ci (.ifF cw (.ifF cc (.bind e1 (.peek (.ifT cm ev)))))))) hj (q1.trans kp) hx
    rw [decide_eq_false cm]
    refine iteF ⟨_, rfl, r, d1, _, rfl, g1, rd_no (by decide +kernel) (by decide +kernel) (by decide +kernel), r, tl, z, L, j1, rfl, R1, hz, rfl, _, rfl, ?_⟩
    rw [str_dec]
    by_cases cs : nw (toks2 z L) j1 = "sets"
    · rw [decide_eq_true cs]
      have ls := nw_lt cs (by decide +kernel)
      refine iteT ⟨_, rfl, r, d1, _, rfl, g1, rd_no (by decide +kernel) (by decide +kernel) (by decide +kernel), r, tl, z, L, j1, "sets", rfl, R1, hz, fun _ H2 R2 q2 => ?_, fun q => absurd cs q⟩
      obtain ⟨⟨d2, g2⟩, _⟩ := id R2
      refine ⟨_, rfl, r, d2, _, rfl, g2, rd_no (by decide +kernel) (by decide +kernel) (by decide +kernel), r, tl, z, L, j1 + 1, rfl, R2, hz, by omega, fun v3 x3 j3 H3 e3 o3 p3 a3 R3 q3 => ?_,
        fun j d H' ev hj kp hx => k2 j d H' (st (.peek (.ifF ci (.ifF cw (.ifF cc (.bind e1 (.peek (.ifF cm (.ifT cs (.bind (.take cs) (.bad ev)))))))))) ) hj ((q1.trans q2).trans kp) hx⟩
      unfold At at a3
      subst a3
      obtain ⟨⟨d3, g3⟩, _⟩ := id R3
      refine ⟨_, rfl, r, d3, _, rfl, g3, rd_no (by decide +kernel) (by decide +kernel) (by decide +kernel), r, tl, z, L, j3, "=", rfl, R3, hz, fun c4 H4 R4 q4 => ?_,
        fun c d H' kp hx => k2 j3 d H' (st (.peek (.ifF ci (.ifF cw (.ifF cc (.bind e1 (.peek (.ifF cm (.ifT cs (.bind (.take cs) (.bind e3 (.bad (.takeN c)))))))))))) ) p3 (((q1.trans q2).trans q3).trans kp) hx⟩
      have l4 := nw_lt c4 (by decide +kernel)
      obtain ⟨⟨d4, g4⟩, _⟩ := id R4
      refine ⟨_, rfl, _, rfl, _, rfl, r, d4, _, rfl, g4, rd_no (by decide +kernel) (by decide +kernel) (by decide +kernel), 0, by omega, by omega, r, tl, z, L, j3 + 1, rfl, R4, hz, by omega, fun v5 x5 j5 H5 e5 o5 p5 a5 R5 q5 => ?_,
        fun j d H' ev hj kp hx => k2 j d H' (st (.peek (.ifF ci (.ifF cw (.ifF cc (.bind e1 (.peek (.ifF cm (.ifT cs (.bind (.take cs) (.bind e3 (.bind (.take c4) (.bad ev)))))))))))) ) hj ((((q1.trans q2).trans q3).trans q4).trans kp) hx⟩
      refine ⟨by show 4 ≤ sizeLine; decide, fun t ht => ?_⟩
      refine k1 (.ref t) (.set x1 x3 x5) j5 _ (st (.peek (.ifF ci (.ifF cw (.ifF cc (.bind e1 (.peek (.ifF cm (.ifT cs (.bind (.take cs) (.bind e3 (.bind (.take c4) (.bind e5 (.pure _)))))))))))) ))
        (by omega) p5 ?_ (R5.keep (same_upd ht)) (((((q1.trans q2).trans q3).trans q4).trans q5).trans (Kept.of (same_upd ht)))
      have an := At.keep (same_upd ht (o := .tup [.str "set", .str x1, .str x3, v5])) a5
      unfold Stm.dt
      rw [At]
      refine ⟨t, _, rfl, upd_same, ?_⟩
      simp only [AtL]
      exact ⟨_, _, rfl, by unfold At; rfl, _, _, rfl, by unfold At; rfl, _, _, rfl, by unfold At; rfl, _, _, rfl, an, rfl⟩
    rw [decide_eq_false cs]
    refine iteF ⟨_, rfl, r, d1, _, rfl, g1, rd_no (by decide +kernel) (by decide +kernel) (by decide +kernel), r, tl, z, L, j1, "asks", rfl, R1, hz, fun c2 H2 R2 q2 => ?_,
      fun c d H' kp hx => k2 j1 d H' (st (.peek (.ifF ci (.ifF cw (.ifF cc (.bind e1 (.peek (.ifF cm (.ifF cs (.bad (.takeN c)))))))))) ) p1 (q1.trans kp) hx⟩
    have l2 := nw_lt c2 (by decide +kernel)
    obtain ⟨⟨d2, g2⟩, _⟩ := id R2
    refine ⟨_, rfl, _, rfl, r, d2, _, rfl, g2, rd_no (by decide +kernel) (by decide +kernel) (by decide +kernel), r, tl, z, L, j1 + 1, rfl, R2, hz, by omega, fun v3 x3 j3 H3 e3 o3 p3 a3 R3 q3 => ?_,
      fun j d H' ev hj kp hx => k2 j d H' (st (.peek (.ifF ci (.ifF cw (.ifF cc (.bind e1 (.peek (.ifF cm (.ifF cs (.bind (.take c2) (.bad ev)))))))))) ) hj ((q1.trans q2).trans kp) hx⟩
    unfold At at a3
    subst a3
    refine ⟨by show 3 ≤ sizeLine; decide, fun t ht => ?_⟩
    refine k1 (.ref t) (.ask x1 x3) j3 _ (st (.peek (.ifF ci (.ifF cw (.ifF cc (.bind e1 (.peek (.ifF cm (.ifF cs (.bind (.take c2) (.bind e3 (.pure _)))))))))) )) (by omega) p3 ?_ (R3.keep (same_upd ht)) (((q1.trans q2).trans q3).trans (Kept.of (same_upd ht)))
    unfold Stm.dt
    rw [At]
    refine ⟨t, _, rfl, upd_same, ?_⟩
    simp only [AtL]
    exact ⟨_, _, rfl, by unfold At; rfl, _, _, rfl, by unfold At; rfl, _, _, rfl, by unfold At; rfl, rfl⟩
end
end OS

namespace OS
open PySem PySem.Spec PyProof.Rows L2
/-! ### parts and scores -/
section
variable {P : Program} {w : World} {K : PySem.W.Frag} {mg : Str → Option Value} {base : Heap} {C CS f_err : Addr} {d_err : FuncData}
theorem value_all (T : Txt K mg) (CR : RdTxt K C) (hB : ∃ t, mg "MOST_BRACKETS" = some (.int 12 t)) {f_Reader_next_word : Addr} {d_Reader_next_word : FuncData} (c_Reader_next_word : MCal P w K mg base C 2 "next_word" ["self"] (spNw C) f_Reader_next_word d_Reader_next_word) {f_Reader_next_sort : Addr} {d_Reader_next_sort : FuncData} (c_Reader_next_sort : MCal P w K mg base C 2 "next_sort" ["self"] (spNs C) f_Reader_next_sort d_Reader_next_sort) {f_Reader_take : Addr} {d_Reader_take : FuncData} (c_Reader_take : MCalX P w K mg base C 4 "take" ["self", "word"] (spTk C CS) f_Reader_take d_Reader_take) {f_Reader_take_sort : Addr} {d_Reader_take_sort : FuncData} (c_Reader_take_sort : MCalX P w K mg base C 4 "take_sort" ["self", "sort"] (spTs C CS) f_Reader_take_sort d_Reader_take_sort)
    {f_Reader_read_name : Addr} {d_Reader_read_name : FuncData} (c_Reader_read_name : MCalX P w K mg base C 5 "read_name" ["self"] (spRd K C CS [] (fun _ => rname) Dt.str) f_Reader_read_name d_Reader_read_name) {f_Reader_fail : Addr} {d_Reader_fail : FuncData} (c_Reader_fail : MCalX P w K mg base C 3 "fail" ["self"] (spFail C CS) f_Reader_fail d_Reader_fail) {f_number_value : Addr} {d_number_value : FuncData} (c_number_value : Cal P w K mg base 1 "number_value" ["digits"] spNum f_number_value d_number_value) {f1 f2 f3 f4 : Addr} {d1 d2 d3 d4 : FuncData}
    (F1 : Fun K "read_simple" "Reader.read_simple" s_Reader_read_simple f1 d1) (b1 : Binds K d1 ["self", "brackets"] []) (m1 : Meth K C "read_simple" f1)
    (F2 : Fun K "read_product" "Reader.read_product" s_Reader_read_product f2 d2) (b2 : Binds K d2 ["self", "brackets"] []) (m2 : Meth K C "read_product" f2)
    (F3 : Fun K "read_sum" "Reader.read_sum" s_Reader_read_sum f3 d3) (b3 : Binds K d3 ["self", "brackets"] []) (m3 : Meth K C "read_sum" f3)
    (F4 : Fun K "read_value" "Reader.read_value" s_Reader_read_value f4 d4) (b4 : Binds K d4 ["self", "brackets"] []) (m4 : Meth K C "read_value" f4) :
    ∀ n : Nat, FnOk P w K mg base (L2.CX P w) (5+4*n) f4 d4 ["self", "brackets"] (spV K C CS n rvalue)
  | 0 => value_none
  | n + 1 => by
    have ih := value_all T CR hB c_Reader_next_word c_Reader_next_sort c_Reader_take c_Reader_take_sort c_Reader_read_name c_Reader_fail c_number_value F1 b1 m1 F2 b2 m2 F3 b3 m3 F4 b4 m4 n
    have s1 := ok_read_simple F1 T CR hB n c_Reader_next_sort c_Reader_take c_Reader_take_sort c_Reader_read_name c_Reader_fail c_number_value ⟨ih, b4, m4⟩
    have s2 := ok_read_product F2 T CR n c_Reader_next_word c_Reader_take ⟨s1, b1, m1⟩
    have s3 := ok_read_sum F3 T CR n c_Reader_next_word c_Reader_take_sort ⟨s2, b2, m2⟩
    exact ok_read_value F4 T CR n c_Reader_next_word c_Reader_take_sort ⟨s3, b3, m3⟩
theorem block_all (T : Txt K mg) (CR : RdTxt K C) (hB : ∃ t, mg "MOST_BLOCKS" = some (.int 12 t)) {f_Reader_next_word : Addr} {d_Reader_next_word : FuncData} (c_Reader_next_word : MCal P w K mg base C 2 "next_word" ["self"] (spNw C) f_Reader_next_word d_Reader_next_word) {f_Reader_take : Addr} {d_Reader_take : FuncData} (c_Reader_take : MCalX P w K mg base C 4 "take" ["self", "word"] (spTk C CS) f_Reader_take d_Reader_take) {f_Reader_fail : Addr} {d_Reader_fail : FuncData} (c_Reader_fail : MCalX P w K mg base C 3 "fail" ["self"] (spFail C CS) f_Reader_fail d_Reader_fail)
    {f_Reader_read_name : Addr} {d_Reader_read_name : FuncData} (c_Reader_read_name : MCalX P w K mg base C 5 "read_name" ["self"] (spRd K C CS [] (fun _ => rname) Dt.str) f_Reader_read_name d_Reader_read_name) {f_Reader_read_names_in_brackets : Addr} {d_Reader_read_names_in_brackets : FuncData} (c_Reader_read_names_in_brackets : MCalX P w K mg base C 7 "read_names_in_brackets" ["self"] (spRd K C CS [] rnamesB namesDt) f_Reader_read_names_in_brackets d_Reader_read_names_in_brackets) {f_Reader_read_message : Addr} {d_Reader_read_message : FuncData} (c_Reader_read_message : MCalX P w K mg base C 58 "read_message" ["self", "sender"] (spM K C CS (fun a f => rmsg f a) Stm.dt) f_Reader_read_message d_Reader_read_message) {f_Reader_read_value : Addr} {d_Reader_read_value : FuncData} (c_Reader_read_value : MCalX P w K mg base C 57 "read_value" ["self", "brackets"] (spV K C CS 13 rvalue) f_Reader_read_value d_Reader_read_value)
    {f_Reader_read_decision : Addr} {d_Reader_read_decision : FuncData} (c_Reader_read_decision : MCalX P w K mg base C 58 "read_decision" ["self", "word"] (fun vs H Q E => ∃ a : Str, ¬ a = "" ∧ spRd K C CS [.str a] (fun f => rdec f a) decDt vs H Q E) f_Reader_read_decision d_Reader_read_decision) {f1 f2 f3 f4 : Addr} {d1 d2 d3 d4 : FuncData}
    (F1 : Fun K "read_if" "Reader.read_if" s_Reader_read_if f1 d1) (b1 : Binds K d1 ["self", "blocks"] []) (m1 : Meth K C "read_if" f1)
    (F2 : Fun K "read_while" "Reader.read_while" s_Reader_read_while f2 d2) (b2 : Binds K d2 ["self", "blocks"] []) (m2 : Meth K C "read_while" f2)
    (F3 : Fun K "read_statement" "Reader.read_statement" s_Reader_read_statement f3 d3) (b3 : Binds K d3 ["self", "blocks"] []) (m3 : Meth K C "read_statement" f3)
    (F4 : Fun K "read_block" "Reader.read_block" s_Reader_read_block f4 d4) (b4 : Binds K d4 ["self", "blocks"] []) (m4 : Meth K C "read_block" f4) :
    ∀ n : Nat, FnOk P w K mg base (L2.CX P w) (58+3*n) f4 d4 ["self", "blocks"] (spB K C CS n rblock blkDt)
  | 0 => block_none
  | n + 1 => by
    have ih := block_all T CR hB c_Reader_next_word c_Reader_take c_Reader_fail c_Reader_read_name c_Reader_read_names_in_brackets c_Reader_read_message c_Reader_read_value c_Reader_read_decision F1 b1 m1 F2 b2 m2 F3 b3 m3 F4 b4 m4 n
    have s1 := ok_read_if F1 T CR n c_Reader_take c_Reader_read_decision ⟨ih, b4, m4⟩
    have s2 := ok_read_while F2 T CR n c_Reader_read_decision ⟨ih, b4, m4⟩
    have s3 := ok_read_statement F3 T CR n c_Reader_next_word c_Reader_take c_Reader_read_name c_Reader_read_names_in_brackets c_Reader_read_message c_Reader_read_value ⟨s1, b1, m1⟩ ⟨s2, b2, m2⟩
    exact ok_read_block F4 T CR hB n c_Reader_next_word c_Reader_take c_Reader_fail ⟨s3, b3, m3⟩
theorem ok_read_part {f : Addr} {fd : FuncData} (F : Fun K "read_part" "Reader.read_part" s_Reader_read_part f fd) (T : Txt K mg) (CR : RdTxt K C) {f_Reader_take : Addr} {d_Reader_take : FuncData} (c_Reader_take : MCalX P w K mg base C 4 "take" ["self", "word"] (spTk C CS) f_Reader_take d_Reader_take) {f_Reader_read_name : Addr} {d_Reader_read_name : FuncData} (c_Reader_read_name : MCalX P w K mg base C 5 "read_name" ["self"] (spRd K C CS [] (fun _ => rname) Dt.str) f_Reader_read_name d_Reader_read_name) {f_Reader_read_names_in_brackets : Addr} {d_Reader_read_names_in_brackets : FuncData} (c_Reader_read_names_in_brackets : MCalX P w K mg base C 7 "read_names_in_brackets" ["self"] (spRd K C CS [] rnamesB namesDt) f_Reader_read_names_in_brackets d_Reader_read_names_in_brackets)
    {f_Reader_read_block : Addr} {d_Reader_read_block : FuncData} (c_Reader_read_block : MCalX P w K mg base C 97 "read_block" ["self", "blocks"] (spB K C CS 13 rblock blkDt) f_Reader_read_block d_Reader_read_block) : FnOk P w K mg base (L2.CX P w) 98 f fd ["self"] (spRd K C CS [] rpart Prt.dt) := by
  refine F.okX sc_Reader_read_part (fun vs H Q E h => ?_) (fun cdv A outer s H vs Q E hr h => ?_)
  · obtain ⟨r, tl, z, L, i, rfl, _⟩ := h
    rfl
  · obtain ⟨r, tl, z, L, i, rfl, hR, hz, hi, k1, k2⟩ := h
    obtain ⟨⟨dx, h1⟩, _⟩ := id hR
    refine ⟨_, (pss_cons (ps_expr (pe_meth (pv 0) CR.cl c_Reader_take.m c_Reader_take.G (hr.mono (by decide)) c_Reader_take.b .nil (passE (takes_of rfl rfl rfl rfl)) (pa_cons pe_str pa_nil)))
      (pss_cons (ps_set (i := 1) sc_Reader_read_part.nd rfl (.inl rfl) (pe_meth0 (pv 0) CR.cl c_Reader_read_name.m c_Reader_read_name.G (hr.mono (by decide)) c_Reader_read_name.b .nil (passE (takes_of rfl rfl rfl rfl))))
      (pss_cons (ps_set (i := 2) sc_Reader_read_part.nd rfl (.inl rfl) (pe_meth0 (pv 0) CR.cl c_Reader_read_names_in_brackets.m c_Reader_read_names_in_brackets.G (hr.mono (by decide)) c_Reader_read_names_in_brackets.b .nil (passE (takes_of rfl rfl rfl rfl))))
      (pss_one (ps_ret (pe_tup (pa_cons (pv 1) (pa_cons (pv 2) (pa_cons (pe_meth (pv 0) CR.cl c_Reader_read_block.m c_Reader_read_block.G (hr.mono (by decide)) c_Reader_read_block.b .nil (passE (takes_of rfl rfl rfl rfl)) (pa_cons pe_int pa_nil)) pa_nil))))))))), ?_⟩
    refine ⟨_, rfl, r, dx, _, rfl, h1, rd_no (by decide +kernel) (by decide +kernel) (by decide +kernel), r, tl, z, L, i, "part", rfl, hR, hz, fun c1 H1 R1 q1 => ?_, fun c d H' kp hx => k2 i d H' (.bad (.takeN c)) hi kp hx⟩
    have l1 := nw_lt c1 (by decide +kernel)
    obtain ⟨⟨d1, g1⟩, _⟩ := id R1
    refine ⟨_, rfl, r, d1, _, rfl, g1, rd_no (by decide +kernel) (by decide +kernel) (by decide +kernel), r, tl, z, L, i + 1, rfl, R1, hz, by omega, fun v2 x2 j2 H2 e2 o2 p2 a2 R2 q2 => ?_, fun j d H' ev hj kp hx => k2 j d H' (.bind (.take c1) (.bad ev)) hj (q1.trans kp) hx⟩
    unfold At at a2
    subst a2
    obtain ⟨⟨d2, g2⟩, _⟩ := id R2
    refine ⟨_, rfl, r, d2, _, rfl, g2, rd_no (by decide +kernel) (by decide +kernel) (by decide +kernel), r, tl, z, L, j2, rfl, R2, hz, p2, fun v3 x3 j3 H3 e3 o3 p3 a3 R3 q3 => ?_, fun j d H' ev hj kp hx => k2 j d H' (.bind (.take c1) (.bind e2 (.bad ev))) hj ((q1.trans q2).trans kp) hx⟩
    obtain ⟨⟨d3, g3⟩, _⟩ := id R3
    refine ⟨_, rfl, _, rfl, _, rfl, r, d3, _, rfl, g3, rd_no (by decide +kernel) (by decide +kernel) (by decide +kernel), 0, by omega, by omega, r, tl, z, L, j3, rfl, R3, hz, p3, fun v4 x4 j4 H4 e4 o4 p4 a4 R4 q4 => ?_, fun j d H' ev hj kp hx => k2 j d H' (.bind (.take c1) (.bind e2 (.bind e3 (.bad ev)))) hj (((q1.trans q2).trans q3).trans kp) hx⟩
    refine ⟨by show 3 ≤ sizeLine; decide, fun t ht => ?_⟩
    refine k1 (.ref t) ⟨x2, x3, x4⟩ j4 _ (.bind (.take c1) (.bind e2 (.bind e3 (.bind e4 (.pure _))))) (by omega) p4 ?_ (R4.keep (same_upd ht)) ((((q1.trans q2).trans q3).trans q4).trans (Kept.of (same_upd ht)))
    have an := At.keep (same_upd ht (o := .tup [.str x2, v3, v4])) (At.off q4 g3 a3)
    have ab := At.keep (same_upd ht (o := .tup [.str x2, v3, v4])) a4
    unfold Prt.dt
    rw [At]
    refine ⟨t, _, rfl, upd_same, ?_⟩
    simp only [AtL]
    exact ⟨_, _, rfl, by unfold At; rfl, _, _, rfl, an, _, _, rfl, ab, rfl⟩
theorem prts_noL : ∀ ps : List Prt, noLs (ps.map Prt.dt) = true
  | [] => rfl
  | p :: r => by
    rw [List.map_cons, noLs, prts_noL r, Bool.and_true]
    unfold Prt.dt noL
    simp only [noLs, names_noL, Bool.and_true, Bool.true_and]
    unfold blkDt noL
    rw [blk_noL]
    rfl
theorem prt_noL (p : Prt) : noL p.dt = true := by
  have := prts_noL [p]
  simpa [noLs] using this
theorem ok_read_score {f : Addr} {fd : FuncData} (F : Fun K "read_score" "Reader.read_score" s_Reader_read_score f fd) (T : Txt K mg) (CR : RdTxt K C) {f_Reader_has_more : Addr} {d_Reader_has_more : FuncData} (c_Reader_has_more : MCal P w K mg base C 1 "has_more" ["self"] (spMore C) f_Reader_has_more d_Reader_has_more) {f_Reader_next_word : Addr} {d_Reader_next_word : FuncData} (c_Reader_next_word : MCal P w K mg base C 2 "next_word" ["self"] (spNw C) f_Reader_next_word d_Reader_next_word) {f_Reader_fail : Addr} {d_Reader_fail : FuncData} (c_Reader_fail : MCalX P w K mg base C 3 "fail" ["self"] (spFail C CS) f_Reader_fail d_Reader_fail) {f_Reader_take : Addr} {d_Reader_take : FuncData} (c_Reader_take : MCalX P w K mg base C 4 "take" ["self", "word"] (spTk C CS) f_Reader_take d_Reader_take) {f_Reader_read_names : Addr} {d_Reader_read_names : FuncData} (c_Reader_read_names : MCalX P w K mg base C 6 "read_names" ["self"] (spRd K C CS [] rnames namesDt) f_Reader_read_names d_Reader_read_names)
    {f_Reader_read_part : Addr} {d_Reader_read_part : FuncData} (c_Reader_read_part : MCalX P w K mg base C 98 "read_part" ["self"] (spRd K C CS [] rpart Prt.dt) f_Reader_read_part d_Reader_read_part) {f_Reader_read_block : Addr} {d_Reader_read_block : FuncData} (c_Reader_read_block : MCalX P w K mg base C 97 "read_block" ["self", "blocks"] (spB K C CS 13 rblock blkDt) f_Reader_read_block d_Reader_read_block) : FnOk P w K mg base (L2.CX P w) 99 f fd ["self"] (spRd K C CS [] rscore Tree.dt) := by
  refine F.okX sc_Reader_read_score (fun vs H Q E h => ?_) (fun cdv A outer s H vs Q E hr h => ?_)
  · obtain ⟨r, tl, z, L, i, rfl, _⟩ := h
    rfl
  · obtain ⟨r, tl, z, L, i, rfl, hR, hz, hi, k1, k2⟩ := h
    obtain ⟨⟨dx, h1⟩, _⟩ := id hR
    have sl : ∀ {acc : List Prt} {j : Nat} {res : Res (List Prt)}, Evn (fun f => rbind rpeek fun w => if w = "part" then rbind (rpart f) fun p => rparts f (acc ++ [p]) else rpure acc) (toks2 z L) j res → Evn (fun f => rparts f acc) (toks2 z L) j res := fun h => .step h fun f => rfl
    have tl2 : (toks2 z L).length = L.length := by unfold toks2; rw [List.length_map]
    refine ⟨_, (pss_cons (ps_expr (pe_meth (pv 0) CR.cl c_Reader_take.m c_Reader_take.G (hr.mono (by decide)) c_Reader_take.b .nil (passE (takes_of rfl rfl rfl rfl)) (pa_cons pe_str pa_nil)))
      (pss_cons (ps_set (i := 1) sc_Reader_read_score.nd rfl (.inl rfl) (pe_meth0 (pv 0) CR.cl c_Reader_read_names.m c_Reader_read_names.G (hr.mono (by decide)) c_Reader_read_names.b .nil (passE (takes_of rfl rfl rfl rfl))))
      (pss_cons (ps_set (i := 2) sc_Reader_read_score.nd rfl (.inl rfl) (pe_lst pa_nil))
      (pss_cons (ps_while (passes_of rfl) (pt_cmpR op_eq (pe_meth0 (pv 0) CR.cl c_Reader_next_word.m c_Reader_next_word.G (hr.mono (by decide)) c_Reader_next_word.b .nil pass0) pe_str (nomark _)) (pss_one (ps_expr (pe_bm PySem.F.plainAttrs_list PySem.F.slot_list_append PySem.F.type_list_append mt_append (pv 2) (pa_cons (pe_meth0 (pv 0) CR.cl c_Reader_read_part.m c_Reader_read_part.G (hr.mono (by decide)) c_Reader_read_part.b .nil (passE (takes_of rfl rfl rfl rfl))) pa_nil)))))
      (pss_cons (ps_expr (pe_meth (pv 0) CR.cl c_Reader_take.m c_Reader_take.G (hr.mono (by decide)) c_Reader_take.b .nil (passE (takes_of rfl rfl rfl rfl)) (pa_cons pe_str pa_nil)))
      (pss_cons (ps_set (i := 3) sc_Reader_read_score.nd rfl (.inl rfl) (pe_meth (pv 0) CR.cl c_Reader_read_block.m c_Reader_read_block.G (hr.mono (by decide)) c_Reader_read_block.b .nil (passE (takes_of rfl rfl rfl rfl)) (pa_cons pe_int pa_nil)))
      (pss_cons (ps_if (pt_val (pe_meth0 (pv 0) CR.cl c_Reader_has_more.m c_Reader_has_more.G (hr.mono (by decide)) c_Reader_has_more.b .nil pass0)) (pss_one (ps_expr (pe_meth0 (pv 0) CR.cl c_Reader_fail.m c_Reader_fail.G (hr.mono (by decide)) c_Reader_fail.b .nil (passE (takes_of rfl rfl rfl rfl))))) pss_nil)
      (pss_one (ps_ret (pe_tup (pa_cons (pv 1) (pa_cons (pe_callTy call_tuple_of (by rfl) T.tuple (by decide +kernel) (pa_cons (pv 2) pa_nil)) (pa_cons (pv 3) pa_nil))))))))))))), ?_⟩
    refine ⟨_, rfl, r, dx, _, rfl, h1, rd_no (by decide +kernel) (by decide +kernel) (by decide +kernel), r, tl, z, L, i, "ends", rfl, hR, hz, fun c1 H1 R1 q1 => ?_, fun c d H' kp hx => k2 i d H' (.bad (.takeN c)) hi kp hx⟩
    have l1 := nw_lt c1 (by decide +kernel)
    obtain ⟨⟨d1, g1⟩, _⟩ := id R1
    refine ⟨_, rfl, r, d1, _, rfl, g1, rd_no (by decide +kernel) (by decide +kernel) (by decide +kernel), r, tl, z, L, i + 1, rfl, R1, hz, by omega, fun v2 x2 j2 H2 e2 o2 p2 a2 R2 q2 => ?_, fun j d H' ev hj kp hx => k2 j d H' (.bind (.take c1) (.bad ev)) hj (q1.trans kp) hx⟩
    obtain ⟨⟨d2, g2⟩, _⟩ := id R2
    have q12 := q1.trans q2
    refine ⟨Nat.zero_le _, fun nl hn => ?_⟩
    have hn0 := q12.fresh g2 hn
    have hnt : nl ≠ tl := by
      obtain ⟨ps, h2, _⟩ := hR.tk
      exact (ne_of_none h2 hn0).symm
    have ae : At K (upd H2 nl (.lst [])) (namesDt x2) v2 := At.keep (same_upd hn) a2
    refine ⟨fun m σ H' => ∃ (j : Nat) (acc : List Prt) (vs : List V), σ = [some (.ref r), some v2, some (.ref nl), none] ∧ RdAt C r tl z L H' j ∧ H' nl = some (.lst vs) ∧ At K H' (namesDt x2) v2 ∧ AtL K H' (acc.map Prt.dt) vs ∧ Kept r H H' ∧ i < j ∧ j ≤ L.length ∧ m = L.length - j ∧ acc.length ≤ j ∧
        ∀ res, Evn (fun f => rparts f acc) (toks2 z L) j res → Evn (fun f => rparts f []) (toks2 z L) j2 res,
        ⟨L.length - j2, j2, [], [], rfl, R2.keep (same_upd hn), upd_same, ae, by simp only [List.map_nil, AtL], q12.upd hn0, by omega, by omega, rfl, Nat.zero_le _, fun res h => h⟩, ?_⟩
    rintro m σ H' ⟨j, acc, vs, rfl, R3, hl, haa, hat, kp, hij, hj, rfl, hal, hc⟩
    obtain ⟨⟨d3, g3⟩, _⟩ := id R3
    have nlr : nl ≠ r := ne_of hl g3 (by intro q; cases q)
    refine ⟨_, rfl, r, d3, _, rfl, g3, rd_no (by decide +kernel) (by decide +kernel) (by decide +kernel), r, tl, z, L, j, rfl, R3, hz, rfl, _, rfl, ?_⟩
    rw [str_dec]
    by_cases c : nw (toks2 z L) j = "part"
    · have hjl := nw_lt c (by decide +kernel)
      rw [decide_eq_true c]
      refine iteT ⟨_, fun _ _ h => h, ?_⟩
      refine ⟨_, rfl, .inl ⟨rfl, _, SqL.of hl⟩, ?_⟩
      refine ⟨_, rfl, r, d3, _, rfl, g3, rd_no (by decide +kernel) (by decide +kernel) (by decide +kernel), r, tl, z, L, j, rfl, R3, hz, hj, fun v sm j4 H4 ev4 hij4 hj4 hat4 R4 q4 => ?_,
          fun j4 d H4 ev4 hj4 q4 hx => k2 j4 d H4 (.bind (.take c1) (.bind e2 (.bad (hc _ (sl (.peek (.ifT c (.bad ev4)))))))) hj4 (kp.trans q4) hx⟩
      have hl4 := q4 nl _ nlr hl
      have av := AtL.off q4 g3 hat
      have aa := At.off q4 g3 haa
      refine ⟨nl, _, _, rfl, rfl, hl4, ?_, ?_⟩
      · have e1 := av.length
        rw [e1, List.length_map]
        exact sz6' (by have := hz.few; omega)
      · refine ⟨L.length - j4, by omega, j4, acc ++ [sm], _, rfl, R4.put nlr hl4 hnt, upd_same, At.offL hl4 (names_noL _) aa, ?_, (kp.trans q4).upd hn0, by omega, hj4, rfl, ?_, fun res h => ?_⟩
        · rw [List.map_append]
          exact AtL.snoc (At.offL hl4 (prt_noL sm) hat4) (AtL.offL hl4 (prts_noL acc) av)
        · rw [List.length_append]
          show acc.length + 1 ≤ j4
          omega
        · exact hc res (sl (.peek (.ifT c (.bind ev4 h))))
    rw [decide_eq_false c]
    have ep : Evn (fun f => rparts f []) (toks2 z L) j2 (.ok acc j) := hc _ (sl (.peek (.ifF c (.pure acc))))
    refine iteF ?_
    refine ⟨_, rfl, r, d3, _, rfl, g3, rd_no (by decide +kernel) (by decide +kernel) (by decide +kernel), r, tl, z, L, j, "play", rfl, R3, hz, fun c4 H4 R4 q4 => ?_, fun c d H' q hx => k2 j d H' (.bind (.take c1) (.bind e2 (.bind ep (.bad (.takeN c))))) hj (kp.trans q) hx⟩
    have l4 := nw_lt c4 (by decide +kernel)
    obtain ⟨⟨d4, g4⟩, _⟩ := id R4
    refine ⟨_, rfl, r, d4, _, rfl, g4, rd_no (by decide +kernel) (by decide +kernel) (by decide +kernel), 0, by omega, by omega, r, tl, z, L, j + 1, rfl, R4, hz, by omega, fun v5 x5 j5 H5 e5 o5 p5 a5 R5 q5 => ?_, fun j' d H' ev hj' q hx => k2 j' d H' (.bind (.take c1) (.bind e2 (.bind ep (.bind (.take c4) (.bad ev))))) hj' ((kp.trans q4).trans q) hx⟩
    obtain ⟨⟨d5, g5⟩, _⟩ := id R5
    have q15 := (kp.trans q4).trans q5
    refine ⟨_, rfl, r, d5, _, rfl, g5, rd_no (by decide +kernel) (by decide +kernel) (by decide +kernel), r, tl, z, L, j5, rfl, R5, _, rfl, ?_⟩
    by_cases ce : j5 < L.length
    · rw [decide_eq_true ce]
      refine iteT ?_
      exact ⟨_, rfl, r, d5, _, rfl, g5, rd_no (by decide +kernel) (by decide +kernel) (by decide +kernel), r, tl, z, L, j5, rfl, R5, hz, fun d H' q hx => k2 j5 d H' (.bind (.take c1) (.bind e2 (.bind ep (.bind (.take c4) (.bind e5 (.const (by unfold rlast; rw [if_pos (by rw [tl2]; exact ce)]))))))) p5 (q15.trans q) hx⟩
    · rw [decide_eq_false ce]
      refine iteF ?_
      have hl5 := q5 nl _ nlr (q4 nl _ nlr hl)
      refine ⟨_, rfl, _, rfl, nl, _, rfl, .inl ⟨SqL.of hl5, fun tp htp => ?_⟩⟩
      refine ⟨_, rfl, by show 3 ≤ sizeLine; decide, fun t ht => ?_⟩
      refine k1 (.ref t) ⟨x2, acc, x5⟩ j5 _ (.bind (.take c1) (.bind e2 (.bind ep (.bind (.take c4) (.bind e5 (.const (by unfold rlast; rw [if_neg (by rw [tl2]; exact ce)]))))))) (by omega) p5 ?_ ((R5.keep (same_upd htp)).keep (same_upd ht)) ((q15.trans (Kept.of (same_upd htp))).trans (Kept.of (same_upd ht)))
      have s1 := same_upd htp (o := .tup vs)
      have s2 := same_upd ht (o := .tup [v2, .ref tp, v5])
      have an := At.keep s2 (At.keep s1 (At.off q5 g4 (At.off q4 g3 haa)))
      have ab := At.keep s2 (At.keep s1 a5)
      have apt := AtL.keep s2 (AtL.keep s1 (AtL.off q5 g4 (AtL.off q4 g3 hat)))
      unfold Tree.dt
      rw [At]
      refine ⟨t, _, rfl, upd_same, ?_⟩
      simp only [AtL]
      refine ⟨_, _, rfl, an, _, _, rfl, ?_, _, _, rfl, ab, rfl⟩
      rw [At]
      exact ⟨tp, _, rfl, by rw [upd_ne (by intro q; rw [q, upd_same] at ht; cases ht), upd_same], apt⟩
end
end OS

namespace OS
open PySem PySem.Spec PyProof.Rows L2
/-! ### the reader's making, and the reading of a text -/
/-- a class that may be made -/
structure MkCal (P : Program) (w : World) (K : PySem.W.Frag) (mg : Str → Option Value) (base : Heap) (C : Addr) (k : Nat) (x : Str) (ps : List Str) (sp : Sp) (f : Addr) (fd : FuncData) : Prop where
  M : Mk K C f
  G : FnOk P w K mg base CX0 k f fd ps sp
  b : Binds K fd ps []
  m : mg x = some (.ref C)
theorem toks_mem {T : Tab} {cs : List Nat} {i : Nat} {L : List Tk} (h : Toks T cs i L) : ∀ t ∈ L, i ≤ t.a ∧ t.a < cs.length ∧ tokAt T cs t.a = (t.s, t.b) := by
  induction h with
  | done _ => intro t ht; cases ht
  | skip e _ _ ih => intro t ht; obtain ⟨a, b⟩ := ih t ht; exact ⟨by omega, b⟩
  | note e _ ih => intro t ht; obtain ⟨a, b⟩ := ih t ht; exact ⟨Nat.le_trans (le_run _ _ _) a, b⟩
  | tok e _ _ _ ih =>
    intro t ht
    cases ht with
    | head _ => exact ⟨Nat.le_refl _, (List.getElem?_eq_some_iff.mp e).1, rfl⟩
    | tail _ ht => obtain ⟨a, b⟩ := ih t ht; exact ⟨Nat.le_trans (Nat.le_of_lt (tokAt_gt _ _ _)) a, b⟩
theorem tokAt_num {T : Tab} {cs : List Nat} {i b : Nat} (h : tokAt T cs i = (.number, b)) : b = run isDigit cs i := by
  unfold tokAt at h
  split at h
  · injection h with h1 _; cases h1
  · split at h
    · split at h
      · injection h with h1 _; cases h1
      · injection h with h1 _; cases h1
    · split at h
      · injection h with _ h2; exact h2.symm
      · split at h
        · injection h with h1 _; cases h1
        · split at h
          · injection h with h1 _; cases h1
          · injection h with h1 _; cases h1
theorem word_eq {T : Tab} {z : Str} {t : Tk} (h1 : t.a < z.cps.toList.length) (h2 : tokAt T z.cps.toList t.a = (t.s, t.b)) : wordOf z t = ⟨((z.cps.toList.drop t.a).take (t.b - t.a)).toArray⟩ := by
  have := tokAt_gt T z.cps.toList t.a
  rw [h2] at this
  exact cut_mid' (by rw [len_cps]; omega) (by omega)
theorem tkin_of {T : Tab} {z : Str} {L : List Tk} (hz : z.length ≤ 10000) (hl : L.length ≤ z.length + 1) (h : Toks T z.cps.toList 0 L) : TkIn z L := by
  refine ⟨by omega, by omega, fun t ht hs c hc => ?_⟩
  obtain ⟨_, h1, h2⟩ := toks_mem h t ht
  rw [word_eq h1 h2] at hc
  rw [hs] at h2
  have e := tokAt_num h2
  rw [e] at hc
  unfold run at hc
  rw [Nat.add_sub_cancel_left] at hc
  have hc' : c ∈ (z.cps.toList.drop t.a).take ((z.cps.toList.drop t.a).takeWhile isDigit).length := by simpa using hc
  have pre := List.prefix_iff_eq_take.mp (List.takeWhile_prefix (l := z.cps.toList.drop t.a) isDigit)
  rw [← pre] at hc'
  exact List.all_eq_true.mp (List.all_takeWhile) c hc'
theorem pa_offr {H H' : Hp} {r C dx : Addr} {fs : List (Str × V)} (hr : H r = some (.ins C dx fs)) (s : ∀ b o, b ≠ r → H b = some o → H' b = some o) : ∀ {ps : List Addr} {L : List Tk}, Paired (fun p t => H p = some (.tup (tkD t))) ps L → Paired (fun p t => H' p = some (.tup (tkD t))) ps L
  | _, _, .nil => .nil
  | _, _, .cons h q => .cons (s _ _ (ne_of h hr (by intro z; cases z)) h) (pa_offr hr s q)
section
variable {P : Program} {w : World} {K : PySem.W.Frag} {mg : Str → Option Value} {base : Heap} {C CS f_err : Addr} {d_err : FuncData}
def spInit (C : Addr) : Sp := fun vs H Q _ => ∃ (r dx : Addr) (z : Str), vs = [.ref r, .str z] ∧ H r = some (.ins C dx []) ∧ z.length ≤ 10000 ∧
  ∀ tl L H', RdAt C r tl z L H' 0 → Toks tab z.cps.toList 0 L → L.length ≤ z.length + 1 → Kept r H H' → Q .non H'
theorem ok_init {f : Addr} {fd : FuncData} (F : Fun K "__init__" "Reader.__init__" s_Reader___init__ f fd) (T : Txt K mg) (CR : RdTxt K C) {f_tokens : Addr} {d_tokens : FuncData} (c_tokens : Cal P w K mg base 3 "tokens" ["text"] spTokens f_tokens d_tokens) : FnOk P w K mg base CX0 4 f fd ["self", "text"] (spInit C) := by
  refine F.ok sc_Reader___init__ (fun vs H Q E h => ?_) (fun cdv A outer s H vs Q E hr h => ?_)
  · obtain ⟨r, dx, z, rfl, _⟩ := h
    rfl
  · obtain ⟨r, dx, z, rfl, h1, hz, k⟩ := h
    refine ⟨_, (pss_cons (ps_fld (pv 0) (pv 1) rfl)
      (pss_cons (ps_fld (pv 0) (pe_call c_tokens.G (hr.mono (by decide)) (by rfl) c_tokens.m c_tokens.k c_tokens.b .nil pass0 (pa_cons (pv 1) pa_nil)) rfl)
      (pss_one (ps_fld (pv 0) pe_int rfl)))), ?_⟩
    refine ⟨_, rfl, _, rfl, r, C, dx, _, rfl, h1, CR.cl, CR.nT, (by show 0 < 1000; decide), ?_⟩
    have e1 : putF "text" (.str z) [] = [(("text" : Str), V.str z)] := rfl
    rw [e1]
    refine ⟨_, rfl, z, rfl, by omega, fun tl H2 L s2 htl tks toks hl => ?_⟩
    have h2 := s2 r _ upd_same
    have rtl : r ≠ tl := (ne_of_none upd_same htl)
    refine ⟨_, rfl, r, C, dx, _, rfl, h2, CR.cl, CR.nK, (by show 1 < 1000; decide), ?_⟩
    have e2 : putF "tokens" (.ref tl) [(("text" : Str), V.str z)] = [(("text" : Str), V.str z), (("tokens" : Str), V.ref tl)] := by
      show (if ("text" : Str) = "tokens" then _ else _) = _
      rw [if_neg (by decide +kernel)]
      rfl
    rw [e2]
    refine ⟨_, rfl, r, C, dx, _, rfl, upd_same, CR.cl, CR.nA, (by show 2 < 1000; decide), ?_⟩
    have e3 : putF "at" (.int 0) [(("text" : Str), V.str z), (("tokens" : Str), V.ref tl)] = rdF z tl 0 := by
      show (if ("text" : Str) = "at" then _ else _ :: (if ("tokens" : Str) = "at" then _ else _)) = _
      rw [if_neg (by decide +kernel), if_neg (by decide +kernel)]
      rfl
    rw [e3]
    obtain ⟨ps, g1, g2⟩ := tks
    have htr : H2 r = some (.ins C dx [(("text" : Str), V.str z)]) := h2
    have off1 : ∀ b o, b ≠ r → H2 b = some o → (upd (upd H2 r (.ins C dx [(("text" : Str), V.str z), (("tokens" : Str), V.ref tl)])) r (.ins C dx (rdF z tl 0))) b = some o := fun b o hb e => by rw [upd_ne hb, upd_ne hb]; exact e
    refine k tl L _ ⟨⟨dx, upd_same⟩, ps, off1 _ _ rtl.symm g1, ?_⟩ toks hl (fun b o hb e => ?_)
    · exact pa_offr htr off1 g2
    · rw [upd_ne hb, upd_ne hb]
      exact s2 b o (by rw [upd_ne hb]; exact e)
def spTree (K : PySem.W.Frag) (CS : Addr) : Sp := fun vs H Q E => ∃ z : Str, vs = [.str z] ∧ z.length ≤ 10000 ∧
  (∀ L, Toks tab z.cps.toList 0 L → L.length ≤ z.length + 1 → (∀ v a j H', Evn rscore (toks2 z L) 0 (.ok a j) → At K H' (Tree.dt a) v → Same H H' → Q v H') ∧
    ∀ j d H', Evn rscore (toks2 z L) 0 (.bad j) → j ≤ L.length → Same H H' → xdF H' (some d) "start" (.int (placeAt L j)) → E (.ref CS) (some d) H')
theorem ok_read_tree {f : Addr} {fd : FuncData} (F : Fun K "read_tree" "read_tree" s_read_tree f fd) (T : Txt K mg) (CR : RdTxt K C) {f_i : Addr} {d_i : FuncData} (K_Reader : MkCal P w K mg base C 4 "Reader" ["self", "text"] (spInit C) f_i d_i) {f_Reader_read_score : Addr} {d_Reader_read_score : FuncData} (c_Reader_read_score : MCalX P w K mg base C 99 "read_score" ["self"] (spRd K C CS [] rscore Tree.dt) f_Reader_read_score d_Reader_read_score) : FnOk P w K mg base (L2.CX P w) 100 f fd ["text"] (spTree K CS) := by
  refine F.okX sc_read_tree (fun vs H Q E h => ?_) (fun cdv A outer s H vs Q E hr h => ?_)
  · obtain ⟨z, rfl, _⟩ := h
    rfl
  · obtain ⟨z, rfl, hz, k⟩ := h
    refine ⟨_, (pss_one (ps_ret (pe_meth0 (pe_make K_Reader.M K_Reader.G (hr.mono (by decide)) (by rfl) K_Reader.m K_Reader.b .nil pass0 (pa_cons (pv 0) pa_nil)) CR.cl c_Reader_read_score.m c_Reader_read_score.G (hr.mono (by decide)) c_Reader_read_score.b .nil (passE (takes_of rfl rfl rfl rfl))))), ?_⟩
    refine ⟨_, rfl, fun r dx hr0 hd0 hne => ⟨r, dx, z, rfl, upd_same, hz, fun tl L H' R1 toks hl q1 => ⟨rfl, ?_⟩⟩⟩
    obtain ⟨k1, k2⟩ := k L toks hl
    have sm : ∀ H2, Kept r (upd (upd H dx (.own r)) r (.ins C dx [])) H2 → Same H H2 := fun H2 q b o e => by
      refine q b o (ne_of_none e hr0) ?_
      rw [upd_ne (ne_of_none e hr0), upd_ne (ne_of_none e hd0)]
      exact e
    obtain ⟨⟨dy, g1⟩, _⟩ := id R1
    refine ⟨r, dy, _, rfl, g1, rd_no (by decide +kernel) (by decide +kernel) (by decide +kernel), r, tl, z, L, 0, rfl, R1, tkin_of hz hl toks, Nat.zero_le _, fun v a j H2 ev _ hj hat R2 q2 => ?_, fun j d H2 ev hj q2 hx => ?_⟩
    · exact k1 v a j H2 ev hat (sm _ (q1.trans q2))
    · exact k2 j d H2 ev hj (sm _ (q1.trans q2)) hx
end
end OS

namespace OS
open PySem PySem.Spec PyProof.Rows L2
section
variable {P : Program} {w : World} {K : PySem.W.Frag} {mg : Str → Option Value} {base : Heap}
theorem fdiv_nn {a b : Int} (ha : 0 ≤ a) (hb : 0 < b) : 0 ≤ a.fdiv b := by
  rw [Int.fdiv_eq_ediv_of_nonneg _ (by omega)]
  exact Int.ediv_nonneg ha (by omega)
/-! ### _law_take -/
theorem ok_law_take {f : Addr} {fd : FuncData} (F : Fun K "_law_take" "_law_take" s__law_take f fd) (T : Txt K mg) : FnOk P w K mg base CX0 1 f fd ["tape", "many"] spTake := by
  refine F.ok sc__law_take (fun vs H Q E h => ?_) (fun cdv A outer s H vs Q E hr h => ?_)
  · obtain ⟨d, c, m, rfl, _⟩ := h
    rfl
  · obtain ⟨d, c, m, rfl, hT, hm, hm2, k⟩ := h
    have hu := hu_of hr
    refine ⟨_, (Evl.pss_cut (ps_if (PW.pt (pw_and (pt_cmpR op_eq (pe_dget hu (pv 0) pe_str (fun _ _ => rfl)) pe_int (nomark _)) (pw_and1 (pt_cmpR op_lt (pe_dget hu (pv 0) pe_str (fun _ _ => rfl)) (pe_callB call_len_seq (by rfl) T.len PySem.boot_len (pa_cons (pe_dget hu (pv 0) pe_str (fun _ _ => rfl)) pa_nil)) (nomark _))))) (pss_cons (ps_dput hu (pv 0) pe_str (pe_ix ix_list (pe_dget hu (pv 0) pe_str (fun _ _ => rfl)) (pe_dget hu (pv 0) pe_str (fun _ _ => rfl)) (fun _ _ => rfl)) rfl)
      (pss_one (ps_dput hu (pv 0) pe_str (pe_op op_add (pe_dget hu (pv 0) pe_str (fun _ _ => rfl)) pe_int) rfl))) pss_nil)
      (pss_cons (ps_if (pt_cmpR op_gt (pe_dget hu (pv 0) pe_str (fun _ _ => rfl)) pe_int (nomark _)) (pss_cons (ps_set (i := 2) sc__law_take.nd rfl (.inl rfl) (pe_op op_modN (pe_callTy call_int1 (by rfl) T.int (by decide +kernel) (pa_cons (pe_dget hu (pv 0) pe_str (fun _ _ => rfl)) pa_nil)) (pv 1)))
      (pss_cons (ps_dput hu (pv 0) pe_str (pe_op op_fdivN (pe_dget hu (pv 0) pe_str (fun _ _ => rfl)) (pv 1)) rfl)
      (pss_one (ps_ret (pv 2))))) pss_nil)
      (pss_cons (ps_dput hu (pv 0) pe_str (pe_op op_add (pe_dget hu (pv 0) pe_str (fun _ _ => rfl)) pe_int) rfl)
      (pss_cons (ps_set (i := 3) sc__law_take.nd rfl (.inl rfl) (pe_op op_modN (pe_callTy call_int1 (by rfl) T.int (by decide +kernel) (pa_cons (pe_op op_add (pe_op op_mul (pe_dget hu (pv 0) pe_str (fun _ _ => rfl)) pe_int) (pe_op op_mul (pe_dget hu (pv 0) pe_str (fun _ _ => rfl)) pe_int)) pa_nil)) pe_int))
      (pss_cons (ps_set (i := 3) sc__law_take.nd rfl (.inl rfl) (pe_op op_modN (pe_callTy call_int1 (by rfl) T.int (by decide +kernel) (pa_cons (pe_op op_add (pe_op op_add (pe_op op_mul (pv 3) (pv 3)) (pe_op op_mul (pe_dget hu (pv 0) pe_str (fun _ _ => rfl)) pe_int)) pe_int) pa_nil)) pe_int))
      (pss_one (ps_ret (pe_op op_modN (pe_callTy call_int1 (by rfl) T.int (by decide +kernel) (pa_cons (pv 3) pa_nil)) (pv 1))))))))), ?_⟩
    refine ⟨fun σ H1 => σ = [some (.ref d), some (.int m), none, none] ∧ Tape H1 d c ∧ Off d H H1, ?_, ?_⟩
    · obtain ⟨ns, i, l, se, sa, t⟩ := id hT
      refine ⟨_, rfl, d, _, rfl, t.gleft, rfl, _, rfl, ?_⟩
      refine ite2 (fun c1 => ?_) (fun c1 => ?_)
      · refine ⟨_, rfl, d, _, rfl, t.gat, _, rfl, d, _, rfl, t.gcells, c, _, rfl, .inl (SqL.of t.hc), _, _, rfl, rfl, _, rfl, ?_⟩
        rw [List.length_map]
        refine ite2 (fun c2 => ?_) (fun c2 => ?_)
        · have c2 : (i : Int) < (ns.length : Int) := of_decide_eq_true c2
          have hi : i < ns.length := by omega
          have g : (ns.map V.int)[i]? = some (.int ns[i]) := by
            rw [List.getElem?_map, List.getElem?_eq_getElem hi]
            rfl
          refine ⟨_, rfl, d, _, rfl, t.gcells, _, rfl, d, _, rfl, t.gat, c, _, _, _, rfl, rfl, SqL.of t.hc, atI_nat g, _, rfl, d, _, rfl, t.pleft _, ?_⟩
          have t1 := t.set (j := i) (l := ns[i]) (s := sa) t.hi (t.hn _ (List.getElem_mem hi)) t.ht
          refine ⟨_, rfl, d, _, rfl, t1.gat, _, _, rfl, rfl, _, rfl, d, _, rfl, t1.pat _, ?_⟩
          have t2 := t1.set (j := i + 1) (l := ns[i]) (s := sa) (by omega) t1.hl t.ht
          exact ⟨rfl, ⟨ns, i + 1, _, _, _, t2⟩, off_upd.trans off_upd⟩
        · exact ⟨rfl, hT, .refl⟩
      · exact iteF ⟨rfl, hT, .refl⟩
    · rintro σ H1 ⟨rfl, hT, hO⟩
      obtain ⟨ns, i, l, se, sa, t⟩ := id hT
      refine ⟨_, rfl, d, _, rfl, t.gleft, _, _, rfl, rfl, _, rfl, ?_⟩
      refine ite2 (fun c1 => ?_) (fun c1 => ?_)
      · have c1 : 0 < l := of_decide_eq_true c1
        refine ⟨_, rfl, d, _, rfl, t.gleft, .inl ⟨_, rfl, _, rfl, _, _, rfl, rfl, by omega, ?_⟩⟩
        refine ⟨_, rfl, d, _, rfl, t.gleft, _, rfl, _, _, rfl, rfl, ⟨by omega, by omega⟩, _, rfl, d, _, rfl, t.pleft _, ?_⟩
        have t1 := t.set (j := i) (l := l.fdiv m) (s := sa) t.hi (fdiv_nn t.hl hm) t.ht
        exact ⟨_, rfl, k _ _ (Int.fmod_nonneg_of_pos _ hm) (Int.fmod_lt_of_pos _ hm) ⟨ns, i, _, _, _, t1⟩ (hO.trans off_upd)⟩
      · refine ⟨_, rfl, d, _, rfl, t.gsalt, _, _, rfl, rfl, _, rfl, d, _, rfl, t.psalt _, ?_⟩
        have t1 := t.set (j := i) (l := l) (s := sa + 1) t.hi t.hl (by have := t.ht; omega)
        have hs := t.hs
        refine ⟨_, rfl, d, _, rfl, t1.gseed, _, _, rfl, rfl, .inl ⟨by omega, by omega⟩, ?_⟩
        refine ⟨_, rfl, d, _, rfl, t1.gsalt, _, _, rfl, rfl, .inr ⟨by decide, by decide⟩, _, _, rfl, rfl, .inl ⟨_, rfl, _, _, rfl, rfl, (by show (2147483647 : Int) ≠ 0; decide), ?_⟩⟩
        have b1 := Int.fmod_nonneg_of_pos (se * 48271 + (sa + 1) * 69621) (show (0 : Int) < 2147483647 by decide)
        have b2 := Int.fmod_lt_of_pos (se * 48271 + (sa + 1) * 69621) (show (0 : Int) < 2147483647 by decide)
        refine ⟨_, rfl, _, rfl, _, _, rfl, rfl, .inl ⟨by omega, by omega⟩, ?_⟩
        refine ⟨_, rfl, d, _, rfl, t1.gsalt, _, _, rfl, rfl, .inr ⟨by decide, by decide⟩, _, _, rfl, rfl, _, _, rfl, rfl, .inl ⟨_, rfl, _, _, rfl, rfl, (by show (2147483399 : Int) ≠ 0; decide), ?_⟩⟩
        refine ⟨_, rfl, .inl ⟨_, rfl, _, rfl, _, _, rfl, rfl, by omega, ?_⟩⟩
        exact k _ _ (Int.fmod_nonneg_of_pos _ hm) (Int.fmod_lt_of_pos _ hm) ⟨ns, i, _, _, _, t1⟩ (hO.trans off_upd)
/-! ### _law_tape -/
theorem ok_law_tape {f : Addr} {fd : FuncData} (F : Fun K "_law_tape" "_law_tape" s__law_tape f fd) (T : Txt K mg) : FnOk P w K mg base CX0 1 f fd ["script"] (spTape K) := by
  refine F.ok sc__law_tape (fun vs H Q E h => ?_) (fun cdv A outer s H vs Q E hr h => ?_)
  · obtain ⟨a, ns, rfl, _⟩ := h
    rfl
  · obtain ⟨a, ns, rfl, hS, h63, k⟩ := h
    have hu := hu_of hr
    have hgn : ∀ {i : Nat} {x : V}, (ns.map V.int)[i]? = some x → ∃ n, ns[i]? = some n ∧ x = .int n := fun {i x} hi => by
      rw [List.getElem?_map] at hi
      cases e : ns[i]? with
      | none => rw [e] at hi; cases hi
      | some n => rw [e] at hi; exact ⟨n, rfl, (Option.some.inj hi).symm⟩
    refine ⟨_, (pss_cons (ps_setLc (i := 2) (own := [("cell", 1)]) (g := gName 1) (by rfl) sc__law_tape.nd rfl rfl (sw_true rfl rfl rfl (by decide +kernel)) (pi_list (pv 0)) (blkOk_by (N := ["script", "cell", "cells", "seed"]) (sc := defScope s__law_tape) (by decide +kernel)) (fun _ _ _ _ _ => pg_name (i := 1) sc__law_tape.nd rfl (Or.inl rfl)) (fun _ _ _ _ _ => pts_nil) (fun _ _ _ _ _ => (pe_callB call_abs (by rfl) T.abs (by decide +kernel) (pa_cons (pe_callTy call_int1 (by rfl) T.int (by decide +kernel) (pa_cons (pv 1) pa_nil)) pa_nil))))
      (pss_cons (ps_set (i := 3) sc__law_tape.nd rfl (.inl rfl) pe_int)
      (pss_cons (ps_for PassesOwn.never rfl (pi_list (pv 2)) (pg_name (i := 1) sc__law_tape.nd rfl (.inl rfl)) (pss_one (ps_set (i := 3) sc__law_tape.nd rfl (.inl rfl) (pe_op op_modN (pe_callTy call_int1 (by rfl) T.int (by decide +kernel) (pa_cons (pe_op op_add (pe_op op_mul (pv 3) pe_int) (pv 1)) pa_nil)) pe_int))))
      (pss_one (ps_ret (pe_disp (pps_cons pe_str (pv 2) (pps_cons pe_str pe_int (pps_cons pe_str pe_int (pps_cons pe_str (pv 3) (pps_cons pe_str pe_int pps_nil))))) (by rfl) (by rfl) (fun z => by cases z) (by decide))))))), ?_⟩
    refine ⟨_, rfl, a, rfl, ⟨_, hS⟩, fun D nD => ?_⟩
    refine lc_list (K := K) (a := a) (xs := ns.map V.int) (fun i H1 => Same H H1 ∧ ∃ ms : List Int, H1 D = some (.lst (ms.map V.int)) ∧ ms.length = i ∧ ∀ n ∈ ms, 0 ≤ n)
      ⟨same_upd nD, [], upd_same, rfl, fun n h => by cases h⟩ (fun i H1 _ h => h.1.seq hS) ?_ ?_
    · rintro i x H1 hi ⟨sm, ms, hD, hl, hn⟩
      obtain ⟨n, en, rfl⟩ := hgn hi
      have hi2 : i < ns.length := (List.getElem?_eq_some_iff.mp en).1
      refine ⟨rfl, iteT (B := True) ?_⟩
      refine ⟨_, rfl, .inl ⟨_, rfl, _, rfl, _, hD, ?_, ?_⟩⟩
      · rw [List.length_map]
        exact sz6' (by omega)
      · refine ⟨fun b o e => ?_, ms ++ [if n < 0 then -n else n], ?_, ?_, ?_⟩
        · rw [upd_ne (ne_of_none e nD)]
          exact sm _ _ e
        · rw [upd_same, List.map_append]
          rfl
        · rw [List.length_append, hl]
          rfl
        · intro y hy
          rcases List.mem_append.mp hy with hy | hy
          · exact hn y hy
          · rw [List.mem_singleton.mp hy]
            split <;> omega
    · rintro H1 ⟨sm, ms, hD, hl, hn⟩
      rw [List.length_map] at hl
      refine ⟨_, rfl, D, rfl, ⟨_, SqL.of hD⟩, for_list (K := K) (a := D) (xs := ms.map V.int) (fun i σ H2 => ∃ (y : Option V) (sd : Int), σ = [some (.ref a), y, some (.ref D), some (.int sd)] ∧ 0 ≤ sd ∧ sd < 2 ^ 62 ∧ H2 = H1)
        ⟨_, 7, rfl, by decide, by decide, rfl⟩ (fun i σ H2 _ ⟨_, _, _, _, _, e⟩ => by rw [e]; exact SqL.of hD) ?_ ?_⟩
      · rintro i x σ H2 hi ⟨y, sd, rfl, h0, h1, rfl⟩
        obtain ⟨n, en, rfl⟩ : ∃ n, ms[i]? = some n ∧ x = .int n := by
          rw [List.getElem?_map] at hi
          cases e : ms[i]? with
          | none => rw [e] at hi; cases hi
          | some n => rw [e] at hi; exact ⟨n, rfl, (Option.some.inj hi).symm⟩
        refine ⟨_, rfl, _, _, rfl, rfl, .inl ⟨by omega, by omega⟩, _, rfl, _, _, rfl, rfl, .inl ⟨_, rfl, _, _, rfl, rfl, (by show (2147483647 : Int) ≠ 0; decide), ?_⟩⟩
        have b1 := Int.fmod_nonneg_of_pos (sd * 31 + n) (show (0 : Int) < 2147483647 by decide)
        have b2 := Int.fmod_lt_of_pos (sd * 31 + n) (show (0 : Int) < 2147483647 by decide)
        exact ⟨_, _, rfl, b1, by omega, rfl⟩
      · rintro σ H2 ⟨y, sd, rfl, h0, h1, rfl⟩
        intro d hd
        refine ⟨_, rfl, _, rfl, upd_same, tapeD D 0 0 sd 0, rfl, (by show 5 ≤ 15; decide), ?_⟩
        have hDd : D ≠ d := ne_of_none hD hd
        have t : TapeIs (upd (upd H2 d (.dK [])) d (.dK (mergeK [] (tapeD D 0 0 sd 0)))) d D ms 0 0 sd 0 := by
          refine ⟨?_, ?_, Nat.zero_le _, hn, by decide, ⟨h0, h1⟩, by decide⟩
          · rw [upd_same, merge_tape]
            rfl
          · rw [upd_ne hDd, upd_ne hDd]
            exact hD
        refine k d D _ (fun b o e => ?_) (sm.free hd) nD ⟨ms, 0, 0, sd, 0, t⟩
        rw [upd_ne (ne_of_none (sm _ _ e) hd), upd_ne (ne_of_none (sm _ _ e) hd)]
        exact sm _ _ e
end
section
variable {P : Program} {w : World} {K : PySem.W.Frag} {mg : Str → Option Value} {base : Heap}
/-! ### _law_is_integer, _law_same_items, _law_same: equal data are the same -/
def spIsInt : Sp := fun vs H Q _ => ∃ i : Int, vs = [.int i] ∧ Q (.bl true) H
def spSame (K : PySem.W.Frag) (n : Nat) : Sp := fun vs H Q _ => ∃ (v u : V) (d : Dt), vs = [v, u] ∧ At K H d v ∧ At K H d u ∧ dep d < n ∧ narrow d ∧ Q (.bl true) H
/-- a row of data, in a list or a tuple -/
def RowAt (K : PySem.W.Frag) (H : Hp) (a : Addr) (vs : List V) : Prop := H a = some (.lst vs) ∨ H a = some (.tup vs)
theorem RowAt.seq {H : Hp} {a : Addr} {vs : List V} (h : RowAt K H a vs) : SqL K H a vs ∨ SqT K H a vs := by
  rcases h with h | h
  · exact .inl (SqL.of h)
  · exact .inr (SqT.of h)
def spItems (K : PySem.W.Frag) (n : Nat) : Sp := fun vs H Q _ => ∃ (p q : Addr) (xs ys : List V) (ds : List Dt), vs = [.ref p, .ref q] ∧ RowAt K H p xs ∧ RowAt K H q ys ∧ AtL K H ds xs ∧ AtL K H ds ys ∧
  (∀ d ∈ ds, dep d < n ∧ narrow d) ∧ ds.length ≤ 100000 ∧ Q (.bl true) H
theorem ok_law_is_integer {f : Addr} {fd : FuncData} (F : Fun K "_law_is_integer" "_law_is_integer" s__law_is_integer f fd) (T : Txt K mg) : FnOk P w K mg base CX0 1 f fd ["actual"] spIsInt := by
  refine F.ok sc__law_is_integer (fun vs H Q E h => ?_) (fun cdv A outer s H vs Q E hr h => ?_)
  · obtain ⟨i, rfl, _⟩ := h
    rfl
  · obtain ⟨i, rfl, k⟩ := h
    refine ⟨_, (pss_one (ps_ret (pe_and (pe_callB call_isi (by rfl) T.isinstance (by decide +kernel) (pa_cons (pv 0) (pa_cons (pe_bltn (v := .ty "int") (u := Value.type "int") (by rfl) T.int (by decide +kernel) rfl) pa_nil))) (pe_one (pe_not (pe_callB call_isi (by rfl) T.isinstance (by decide +kernel) (pa_cons (pv 0) (pa_cons (pe_bltn (v := .ty "bool") (u := Value.type "bool") (by rfl) T.bool (by decide +kernel) rfl) pa_nil)))))))), ?_⟩
    refine ⟨_, rfl, _, _, .type "int", .type "int", true, rfl, .ty _, .base (.int i), kit_ty (by decide +kernel), true, rfl, iteT ?_⟩
    exact ⟨_, rfl, _, _, .type "int", .type "bool", false, rfl, .ty _, .base (.int i), kit_ty (by decide +kernel), false, rfl, k⟩
theorem ok_law_same_items {f : Addr} {fd : FuncData} (F : Fun K "_law_same_items" "_law_same_items" s__law_same_items f fd) (T : Txt K mg) (n : Nat) {f__law_same : Addr} {d__law_same : FuncData} (c__law_same : Cal P w K mg base (2*n) "_law_same" ["actual", "expected"] (spSame K n) f__law_same d__law_same) : FnOk P w K mg base CX0 (2*n+1) f fd ["actual", "expected"] (spItems K n) := by
  refine F.ok sc__law_same_items (fun vs H Q E h => ?_) (fun cdv A outer s H vs Q E hr h => ?_)
  · obtain ⟨p, q, xs, ys, ds, rfl, _⟩ := h
    rfl
  · obtain ⟨p, q, xs, ys, ds, rfl, hp, hq, hx, hy, hd, hl, k⟩ := h
    have lx := hx.length
    have ly := hy.length
    refine ⟨_, (pss_cons (ps_if (pt_cmpR op_ne (pe_callB call_len_seq (by rfl) T.len PySem.boot_len (pa_cons (pv 0) pa_nil)) (pe_callB call_len_seq (by rfl) T.len PySem.boot_len (pa_cons (pv 1) pa_nil)) (nomark _)) (pss_one (ps_ret pe_bl)) pss_nil)
      (pss_cons (ps_for PassesOwn.never rfl (pi_range1 (by rfl) T.range (pa_cons (pe_callB call_len_seq (by rfl) T.len PySem.boot_len (pa_cons (pv 1) pa_nil)) pa_nil)) (pg_name (i := 2) sc__law_same_items.nd rfl (.inl rfl)) (pss_one (ps_if (pt_not (pt_val (pe_call c__law_same.G (hr.mono (by omega)) (by rfl) c__law_same.m c__law_same.k c__law_same.b .nil pass0 (pa_cons (pe_ix ix_seq (pv 0) (pv 2) (fun _ _ => rfl)) (pa_cons (pe_ix ix_seq (pv 1) (pv 2) (fun _ _ => rfl)) pa_nil))))) (pss_one (ps_ret pe_bl)) pss_nil)))
      (pss_one (ps_ret pe_bl)))), ?_⟩
    refine ⟨_, rfl, p, _, rfl, hp.seq, _, rfl, q, _, rfl, hq.seq, rfl, _, rfl, ?_⟩
    rw [lx, ly, decide_eq_true rfl]
    refine iteF ?_
    refine ⟨_, rfl, q, _, rfl, hq.seq, (ds.length : Int), by rw [ly], by omega, by omega, ?_⟩
    refine for_range (n := (ds.length : Int).toNat) (fun i σ H' => H' = H ∧ ∃ y, σ = [some (.ref p), some (.ref q), y]) ⟨rfl, none, rfl⟩ ?_ ?_
    · rintro i σ H' hi ⟨rfl, y, rfl⟩
      have hi : i < ds.length := by omega
      obtain ⟨v, ev, hv⟩ := hx.get (List.getElem?_eq_getElem hi)
      obtain ⟨u, eu, hu⟩ := hy.get (List.getElem?_eq_getElem hi)
      have hm := hd ds[i] (List.getElem_mem hi)
      have e0 : (0 : Int) + (i : Int) = ((i : Nat) : Int) := Int.zero_add _
      have ix : ∀ {a : Addr} {zs : List V} {x : V}, RowAt K H' a zs → zs[i]? = some x → ∀ R : VK, R x H' → rIx K (.ref a) (.int (0 + (i : Int))) H' R := fun {a zs x} h e R r => by
        rw [e0]
        rcases h with h | h
        · exact .inl ⟨a, _, _, _, rfl, rfl, SqL.of h, atI_nat e, r⟩
        · exact .inr (.inl ⟨a, _, _, _, rfl, rfl, SqT.of h, atI_nat e, r⟩)
      refine ⟨_, rfl, _, rfl, ix hp ev _ ?_⟩
      refine ⟨_, rfl, _, rfl, ix hq eu _ ?_⟩
      exact ⟨v, u, ds[i], rfl, hv, hu, hm.1, hm.2, true, rfl, iteF ⟨rfl, _, rfl⟩⟩
    · rintro σ H' ⟨rfl, y, rfl⟩
      exact k
theorem ok_law_same {f : Addr} {fd : FuncData} (F : Fun K "_law_same" "_law_same" s__law_same f fd) (T : Txt K mg) (n : Nat) {f__law_is_integer : Addr} {d__law_is_integer : FuncData} (c__law_is_integer : Cal P w K mg base 1 "_law_is_integer" ["actual"] spIsInt f__law_is_integer d__law_is_integer) {f__law_same_items : Addr} {d__law_same_items : FuncData} (c__law_same_items : Cal P w K mg base (2*n+1) "_law_same_items" ["actual", "expected"] (spItems K n) f__law_same_items d__law_same_items) : FnOk P w K mg base CX0 (2*n+2) f fd ["actual", "expected"] (spSame K (n+1)) := by
  refine F.ok sc__law_same (fun vs H Q E h => ?_) (fun cdv A outer s H vs Q E hr h => ?_)
  · obtain ⟨v, u, d, rfl, _⟩ := h
    rfl
  · obtain ⟨v, u, d, rfl, hv, hu, hd, hn, k⟩ := h
    refine ⟨_, (pss_cons (ps_if (pt_cmpR op_isN (pv 1) pe_non (nomark _)) (pss_one (ps_ret (pe_cmpR op_isN (pv 0) pe_non (nomark _)))) pss_nil)
      (pss_cons (ps_if (pt_val (pe_callB call_isi (by rfl) T.isinstance (by decide +kernel) (pa_cons (pv 1) (pa_cons (pe_bltn (v := .ty "bool") (u := Value.type "bool") (by rfl) T.bool (by decide +kernel) rfl) pa_nil)))) (pss_one (ps_ret (pe_and (pe_callB call_isi (by rfl) T.isinstance (by decide +kernel) (pa_cons (pv 0) (pa_cons (pe_bltn (v := .ty "bool") (u := Value.type "bool") (by rfl) T.bool (by decide +kernel) rfl) pa_nil))) (pe_one (pe_cmpR op_eq (pv 0) (pv 1) (nomark _)))))) pss_nil)
      (pss_cons (ps_if (pt_val (pe_callB call_isi (by rfl) T.isinstance (by decide +kernel) (pa_cons (pv 1) (pa_cons (pe_bltn (v := .ty "int") (u := Value.type "int") (by rfl) T.int (by decide +kernel) rfl) pa_nil)))) (pss_one (ps_ret (pe_and (pe_call c__law_is_integer.G (hr.mono (by omega)) (by rfl) c__law_is_integer.m c__law_is_integer.k c__law_is_integer.b .nil pass0 (pa_cons (pv 0) pa_nil)) (pe_one (pe_cmpR op_eq (pv 0) (pv 1) (nomark _)))))) pss_nil)
      (pss_cons (ps_if (pt_val (pe_callB call_isi (by rfl) T.isinstance (by decide +kernel) (pa_cons (pv 1) (pa_cons (pe_bltn (v := .ty "str") (u := Value.type "str") (by rfl) T.str (by decide +kernel) rfl) pa_nil)))) (pss_one (ps_ret (pe_and (pe_callB call_isi (by rfl) T.isinstance (by decide +kernel) (pa_cons (pv 0) (pa_cons (pe_bltn (v := .ty "str") (u := Value.type "str") (by rfl) T.str (by decide +kernel) rfl) pa_nil))) (pe_one (pe_cmpR op_eq (pv 0) (pv 1) (nomark _)))))) pss_nil)
      (pss_cons (ps_if (pt_val (pe_callB call_isi (by rfl) T.isinstance (by decide +kernel) (pa_cons (pv 1) (pa_cons (pe_bltn (v := .ty "tuple") (u := Value.type "tuple") (by rfl) T.tuple (by decide +kernel) rfl) pa_nil)))) (pss_one (ps_ret (pe_and (pe_callB call_isi (by rfl) T.isinstance (by decide +kernel) (pa_cons (pv 0) (pa_cons (pe_bltn (v := .ty "tuple") (u := Value.type "tuple") (by rfl) T.tuple (by decide +kernel) rfl) pa_nil))) (pe_one (pe_call c__law_same_items.G (hr.mono (by omega)) (by rfl) c__law_same_items.m c__law_same_items.k c__law_same_items.b .nil pass0 (pa_cons (pv 0) (pa_cons (pv 1) pa_nil))))))) pss_nil)
      (pss_cons (ps_if (pt_val (pe_callB call_isi (by rfl) T.isinstance (by decide +kernel) (pa_cons (pv 1) (pa_cons (pe_bltn (v := .ty "list") (u := Value.type "list") (by rfl) T.list (by decide +kernel) rfl) pa_nil)))) (pss_one (ps_ret (pe_and (pe_callB call_isi (by rfl) T.isinstance (by decide +kernel) (pa_cons (pv 0) (pa_cons (pe_bltn (v := .ty "list") (u := Value.type "list") (by rfl) T.list (by decide +kernel) rfl) pa_nil))) (pe_one (pe_call c__law_same_items.G (hr.mono (by omega)) (by rfl) c__law_same_items.m c__law_same_items.k c__law_same_items.b .nil pass0 (pa_cons (pv 0) (pa_cons (pv 1) pa_nil))))))) pss_nil)
      pss_never)))))), ?_⟩
    cases d with
    | non =>
      unfold At at hv hu
      subst hv hu
      exact ⟨_, rfl, rfl, _, rfl, iteT ⟨_, rfl, rfl, k⟩⟩
    | bl b =>
      unfold At at hv hu
      subst hv hu
      refine ⟨_, rfl, rfl, _, rfl, iteF ?_⟩
      refine ⟨_, rfl, _, _, .type "bool", .type "bool", true, rfl, .ty _, .base (.bl b), kit_ty (by decide +kernel), true, rfl, iteT ?_⟩
      refine ⟨_, rfl, _, _, .type "bool", .type "bool", true, rfl, .ty _, .base (.bl b), kit_ty (by decide +kernel), true, rfl, iteT ?_⟩
      refine ⟨_, rfl, _, rfl, rfl, ?_⟩
      rw [decide_eq_true rfl]
      exact k
    | int i =>
      unfold At at hv hu
      subst hv hu
      refine ⟨_, rfl, rfl, _, rfl, iteF ?_⟩
      refine ⟨_, rfl, _, _, .type "int", .type "bool", false, rfl, .ty _, .base (.int i), kit_ty (by decide +kernel), false, rfl, iteF ?_⟩
      refine ⟨_, rfl, _, _, .type "int", .type "int", true, rfl, .ty _, .base (.int i), kit_ty (by decide +kernel), true, rfl, iteT ?_⟩
      refine ⟨_, rfl, i, rfl, true, rfl, iteT ?_⟩
      refine ⟨_, rfl, _, rfl, rfl, ?_⟩
      rw [decide_eq_true rfl]
      exact k
    | str x =>
      unfold At at hv hu
      subst hv hu
      refine ⟨_, rfl, rfl, _, rfl, iteF ?_⟩
      refine ⟨_, rfl, _, _, .type "str", .type "bool", false, rfl, .ty _, .base (.str x), kit_ty (by decide +kernel), false, rfl, iteF ?_⟩
      refine ⟨_, rfl, _, _, .type "str", .type "int", false, rfl, .ty _, .base (.str x), kit_ty (by decide +kernel), false, rfl, iteF ?_⟩
      refine ⟨_, rfl, _, _, .type "str", .type "str", true, rfl, .ty _, .base (.str x), kit_ty (by decide +kernel), true, rfl, iteT ?_⟩
      refine ⟨_, rfl, _, _, .type "str", .type "str", true, rfl, .ty _, .base (.str x), kit_ty (by decide +kernel), true, rfl, iteT ?_⟩
      refine ⟨_, rfl, _, rfl, rfl, ?_⟩
      rw [decide_eq_true rfl]
      exact k
    | tup xs =>
      unfold At at hv hu
      obtain ⟨p, vs, rfl, hp, hx⟩ := hv
      obtain ⟨q, ys, rfl, hq, hy⟩ := hu
      unfold dep at hd
      unfold narrow at hn
      refine ⟨_, rfl, rfl, _, rfl, iteF ?_⟩
      refine ⟨_, rfl, _, _, .type "tuple", .type "bool", false, rfl, .ty _, .base (.tup hq), kit_ty (by decide +kernel), false, rfl, iteF ?_⟩
      refine ⟨_, rfl, _, _, .type "tuple", .type "int", false, rfl, .ty _, .base (.tup hq), kit_ty (by decide +kernel), false, rfl, iteF ?_⟩
      refine ⟨_, rfl, _, _, .type "tuple", .type "str", false, rfl, .ty _, .base (.tup hq), kit_ty (by decide +kernel), false, rfl, iteF ?_⟩
      refine ⟨_, rfl, _, _, .type "tuple", .type "tuple", true, rfl, .ty _, .base (.tup hq), kit_ty (by decide +kernel), true, rfl, iteT ?_⟩
      refine ⟨_, rfl, _, _, .type "tuple", .type "tuple", true, rfl, .ty _, .base (.tup hp), kit_ty (by decide +kernel), true, rfl, iteT ?_⟩
      exact ⟨_, rfl, _, rfl, p, q, vs, ys, xs, rfl, .inr hp, .inr hq, hx, hy, deep_of hd hn.2, hn.1, k⟩
    | lst xs =>
      unfold At at hv hu
      obtain ⟨p, vs, rfl, hp, hx⟩ := hv
      obtain ⟨q, ys, rfl, hq, hy⟩ := hu
      unfold dep at hd
      unfold narrow at hn
      refine ⟨_, rfl, rfl, _, rfl, iteF ?_⟩
      refine ⟨_, rfl, _, _, .type "list", .type "bool", false, rfl, .ty _, .base (.lst hq), kit_ty (by decide +kernel), false, rfl, iteF ?_⟩
      refine ⟨_, rfl, _, _, .type "list", .type "int", false, rfl, .ty _, .base (.lst hq), kit_ty (by decide +kernel), false, rfl, iteF ?_⟩
      refine ⟨_, rfl, _, _, .type "list", .type "str", false, rfl, .ty _, .base (.lst hq), kit_ty (by decide +kernel), false, rfl, iteF ?_⟩
      refine ⟨_, rfl, _, _, .type "list", .type "tuple", false, rfl, .ty _, .base (.lst hq), kit_ty (by decide +kernel), false, rfl, iteF ?_⟩
      refine ⟨_, rfl, _, _, .type "list", .type "list", true, rfl, .ty _, .base (.lst hq), kit_ty (by decide +kernel), true, rfl, iteT ?_⟩
      refine ⟨_, rfl, _, _, .type "list", .type "list", true, rfl, .ty _, .base (.lst hp), kit_ty (by decide +kernel), true, rfl, iteT ?_⟩
      exact ⟨_, rfl, _, rfl, p, q, vs, ys, xs, rfl, .inl hp, .inl hq, hx, hy, deep_of hd hn.2, hn.1, k⟩
/-- nothing can be asked at depth 0 -/
theorem same_none {f : Addr} {fd : FuncData} {ps : List Str} : FnOk P w K mg base CX0 (2*0) f fd ps (spSame K 0) := by
  have no : ∀ vs H Q E, ¬ spSame K 0 vs H Q E := fun vs H Q E h => by
    obtain ⟨v, u, d, _, _, _, h, _⟩ := h
    omega
  exact ⟨fun vs H Q E h => absurd h (no vs H Q E), fun A outer s H args us vs Q E _ _ _ _ h => absurd h (no vs H Q E)⟩
theorem same_all {f1 f2 f3 : Addr} {d1 d2 d3 : FuncData} (T : Txt K mg) (F1 : Fun K "_law_is_integer" "_law_is_integer" s__law_is_integer f1 d1) (b1 : Binds K d1 ["actual"] []) (m1 : mg "_law_is_integer" = some (.ref f1))
    (F2 : Fun K "_law_same_items" "_law_same_items" s__law_same_items f2 d2) (b2 : Binds K d2 ["actual", "expected"] []) (m2 : mg "_law_same_items" = some (.ref f2))
    (F3 : Fun K "_law_same" "_law_same" s__law_same f3 d3) (b3 : Binds K d3 ["actual", "expected"] []) (m3 : mg "_law_same" = some (.ref f3)) :
    ∀ n : Nat, FnOk P w K mg base CX0 (2*n) f3 d3 ["actual", "expected"] (spSame K n)
  | 0 => same_none
  | n + 1 => by
    have ih := same_all T F1 b1 m1 F2 b2 m2 F3 b3 m3 n
    exact ok_law_same F3 T n ⟨ok_law_is_integer F1 T, b1, F1.kp, m1⟩ ⟨ok_law_same_items F2 T n ⟨ih, b3, F3.kp, m3⟩, b2, F2.kp, m2⟩
end
end OS

namespace OS
open PySem PySem.Spec PyProof.Rows L2
/-! ### trees are drawn: values -/
def Val.dep : Val → Nat
  | .num _ => 0
  | .name _ => 0
  | .op _ a b => max a.dep b.dep + 1
def VOk : Val → Prop
  | .num n => n = 0 ∨ n = 1 ∨ n = 2 ∨ n = 3 ∨ n = 7 ∨ n = 4294967295
  | .name x => x = "n" ∨ x = "m" ∨ x = "k"
  | .op s a b => (s = "+" ∨ s = "-" ∨ s = "*" ∨ s = "<" ∨ s = "==") ∧ VOk a ∧ VOk b
theorem pick_of {xs : List V} {r : Int} (h0 : 0 ≤ r) (h1 : r < (xs.length : Int)) : ∃ x ∈ xs, atI xs r = some x := by
  obtain ⟨i, rfl⟩ := Int.eq_ofNat_of_zero_le h0
  have hi : i < xs.length := by omega
  exact ⟨xs[i], List.getElem_mem hi, atI_nat (List.getElem?_eq_getElem hi)⟩
section
variable {P : Program} {w : World} {K : PySem.W.Frag} {mg : Str → Option Value} {base : Heap}
def spNumber : Sp := fun vs H Q _ => ∃ d c : Addr, vs = [.ref d] ∧ Tape H d c ∧ ∀ (n : Int) H', VOk (.num n) → Tape H' d c → Kept d H H' → Q (.int n) H'
theorem ok_law_number {f : Addr} {fd : FuncData} (F : Fun K "_law_number" "_law_number" s__law_number f fd) (T : Txt K mg) {f__law_take : Addr} {d__law_take : FuncData} (c__law_take : Cal P w K mg base 1 "_law_take" ["tape", "many"] spTake f__law_take d__law_take) : FnOk P w K mg base CX0 2 f fd ["tape"] spNumber := by
  refine F.ok sc__law_number (fun vs H Q E h => ?_) (fun cdv A outer s H vs Q E hr h => ?_)
  · obtain ⟨d, c, rfl, _⟩ := h
    rfl
  · obtain ⟨d, c, rfl, hT, k⟩ := h
    refine ⟨_, (pss_one (ps_ret (pe_ix ix_list (pe_lst (pa_cons pe_int (pa_cons pe_int (pa_cons pe_int (pa_cons pe_int (pa_cons pe_int (pa_cons pe_int pa_nil))))))) (pe_call c__law_take.G (hr.mono (by decide)) (by rfl) c__law_take.m c__law_take.k c__law_take.b .nil pass0 (pa_cons (pv 0) (pa_cons pe_int pa_nil))) (fun _ _ => rfl)))), ?_⟩
    refine ⟨by show 6 ≤ sizeLine; decide, fun l hl => ?_⟩
    refine ⟨_, rfl, d, c, 6, rfl, hT.keep (same_upd hl), by decide, by decide, fun r H' r0 r1 T' O => ?_⟩
    obtain ⟨x, hx, e⟩ := pick_of (xs := [.int 0, .int 1, .int 2, .int 3, .int 7, .int 4294967295]) r0 r1
    refine ⟨l, _, _, _, rfl, rfl, SqL.of (by rw [O l (hT.ne hl).1]; exact upd_same), e, ?_⟩
    have kp := (Kept.of (d := d) (same_upd (o := .lst [.int 0, .int 1, .int 2, .int 3, .int 7, .int 4294967295]) hl)).trans O.kept
    simp only [List.mem_cons, List.not_mem_nil, or_false] at hx
    rcases hx with rfl | rfl | rfl | rfl | rfl | rfl
    · exact k 0 H' (.inl rfl) T' kp
    · exact k 1 H' (.inr (.inl rfl)) T' kp
    · exact k 2 H' (.inr (.inr (.inl rfl))) T' kp
    · exact k 3 H' (.inr (.inr (.inr (.inl rfl)))) T' kp
    · exact k 7 H' (.inr (.inr (.inr (.inr (.inl rfl))))) T' kp
    · exact k 4294967295 H' (.inr (.inr (.inr (.inr (.inr rfl))))) T' kp
def spVal (K : PySem.W.Frag) (n : Nat) : Sp := fun vs H Q _ => ∃ (d c : Addr) (m : Nat), vs = [.ref d, .int m] ∧ m < n ∧ m ≤ 1000 ∧ Tape H d c ∧ ∀ (v : V) (x : Val) H', VOk x → x.dep ≤ m → At K H' x.dt v → Tape H' d c → Kept d H H' → Q v H'
theorem val_none {f : Addr} {fd : FuncData} {ps : List Str} : FnOk P w K mg base CX0 (3+0) f fd ps (spVal K 0) := by
  have no : ∀ vs H Q E, ¬ spVal K 0 vs H Q E := fun vs H Q E h => by
    obtain ⟨d, c, m, _, h, _⟩ := h
    omega
  exact ⟨fun vs H Q E h => absurd h (no vs H Q E), fun A outer s H args us vs Q E _ _ _ _ h => absurd h (no vs H Q E)⟩
end
/-- tuples and lists stand as they were -/
def Rws (H H' : Hp) : Prop := (∀ b xs, H b = some (.tup xs) → H' b = some (.tup xs)) ∧ ∀ b xs, H b = some (.lst xs) → H' b = some (.lst xs)
mutual
theorem At.rws {K : PySem.W.Frag} {H H' : Hp} (s : Rws H H') : ∀ {d : Dt} {v : V}, At K H d v → At K H' d v
  | .non, v, h => by unfold At at h ⊢; exact h
  | .bl b, v, h => by unfold At at h ⊢; exact h
  | .int i, v, h => by unfold At at h ⊢; exact h
  | .str x, v, h => by unfold At at h ⊢; exact h
  | .tup xs, v, h => by
    unfold At at h ⊢
    obtain ⟨p, vs, e, hp, hl⟩ := h
    exact ⟨p, vs, e, s.1 _ _ hp, AtL.rws s hl⟩
  | .lst xs, v, h => by
    unfold At at h ⊢
    obtain ⟨p, vs, e, hp, hl⟩ := h
    exact ⟨p, vs, e, s.2 _ _ hp, AtL.rws s hl⟩
theorem AtL.rws {K : PySem.W.Frag} {H H' : Hp} (s : Rws H H') : ∀ {ds : List Dt} {vs : List V}, AtL K H ds vs → AtL K H' ds vs
  | [], vs, h => by unfold AtL at h ⊢; exact h
  | d :: ds, vs, h => by
    unfold AtL at h ⊢
    obtain ⟨v, r, e, hd, hl⟩ := h
    exact ⟨v, r, e, At.rws s hd, AtL.rws s hl⟩
end
theorem Rws.trans {H H1 H2 : Hp} (a : Rws H H1) (b : Rws H1 H2) : Rws H H2 := ⟨fun x xs h => b.1 _ _ (a.1 _ _ h), fun x xs h => b.2 _ _ (a.2 _ _ h)⟩
theorem Same.rws {H H' : Hp} (s : Same H H') : Rws H H' := ⟨fun x xs h => s _ _ h, fun x xs h => s _ _ h⟩
theorem Tape.rws {H H' : Hp} {d c : Addr} (hT : Tape H d c) (q : Kept d H H') : Rws H H' := by
  obtain ⟨ns, i, l, se, sa, t⟩ := hT
  exact ⟨fun b xs h => q b _ (ne_of h t.hd (by intro z; cases z)) h, fun b xs h => q b _ (ne_of h t.hd (by intro z; cases z)) h⟩
section
variable {P : Program} {w : World} {K : PySem.W.Frag} {mg : Str → Option Value} {base : Heap}
theorem ok_law_value {f : Addr} {fd : FuncData} (F : Fun K "_law_value" "_law_value" s__law_value f fd) (T : Txt K mg) (n : Nat) {f__law_take : Addr} {d__law_take : FuncData} (c__law_take : Cal P w K mg base 1 "_law_take" ["tape", "many"] spTake f__law_take d__law_take) {f__law_number : Addr} {d__law_number : FuncData} (c__law_number : Cal P w K mg base 2 "_law_number" ["tape"] spNumber f__law_number d__law_number) {f__law_value : Addr} {d__law_value : FuncData} (c__law_value : Cal P w K mg base (3+n) "_law_value" ["tape", "depth"] (spVal K n) f__law_value d__law_value) : FnOk P w K mg base CX0 (3+n+1) f fd ["tape", "depth"] (spVal K (n+1)) := by
  refine F.ok sc__law_value (fun vs H Q E h => ?_) (fun cdv A outer s H vs Q E hr h => ?_)
  · obtain ⟨d, c, m, rfl, _⟩ := h
    rfl
  · obtain ⟨d, c, m, rfl, hm, hm1, hT, k⟩ := h
    refine ⟨_, (Evl.pss_cut (ps_set (i := 2) sc__law_value.nd rfl (.inl rfl) (pe_ifExp (pt_cmpR op_gt (pv 1) pe_int (nomark _)) (pe_call c__law_take.G (hr.mono (by omega)) (by rfl) c__law_take.m c__law_take.k c__law_take.b .nil pass0 (pa_cons (pv 0) (pa_cons pe_int pa_nil))) (pe_call c__law_take.G (hr.mono (by omega)) (by rfl) c__law_take.m c__law_take.k c__law_take.b .nil pass0 (pa_cons (pv 0) (pa_cons pe_int pa_nil)))))
      (pss_cons (ps_if (pt_cmpR op_eq (pv 2) pe_int (nomark _)) (pss_one (ps_ret (pe_tup (pa_cons pe_str (pa_cons (pe_call c__law_number.G (hr.mono (by omega)) (by rfl) c__law_number.m c__law_number.k c__law_number.b .nil pass0 (pa_cons (pv 0) pa_nil)) pa_nil))))) pss_nil)
      (pss_cons (ps_if (pt_cmpR op_lt (pv 2) pe_int (nomark _)) (pss_one (ps_ret (pe_tup (pa_cons pe_str (pa_cons (pe_ix ix_list (pe_lst (pa_cons pe_str (pa_cons pe_str (pa_cons pe_str pa_nil)))) (pe_call c__law_take.G (hr.mono (by omega)) (by rfl) c__law_take.m c__law_take.k c__law_take.b .nil pass0 (pa_cons (pv 0) (pa_cons pe_int pa_nil))) (fun _ _ => rfl)) pa_nil))))) pss_nil)
      (pss_cons (ps_set (i := 3) sc__law_value.nd rfl (.inl rfl) (pe_ix ix_list (pe_lst (pa_cons pe_str (pa_cons pe_str (pa_cons pe_str (pa_cons pe_str (pa_cons pe_str (pa_cons pe_str (pa_cons pe_str pa_nil)))))))) (pe_call c__law_take.G (hr.mono (by omega)) (by rfl) c__law_take.m c__law_take.k c__law_take.b .nil pass0 (pa_cons (pv 0) (pa_cons pe_int pa_nil))) (fun _ _ => rfl)))
      (pss_one (ps_ret (pe_tup (pa_cons (pv 3) (pa_cons (pe_call c__law_value.G (hr.mono (by omega)) (by rfl) c__law_value.m c__law_value.k c__law_value.b .nil pass0 (pa_cons (pv 0) (pa_cons (pe_op op_sub (pv 1) pe_int) pa_nil))) (pa_cons (pe_call c__law_value.G (hr.mono (by omega)) (by rfl) c__law_value.m c__law_value.k c__law_value.b .nil pass0 (pa_cons (pv 0) (pa_cons (pe_op op_sub (pv 1) pe_int) pa_nil))) pa_nil)))))))))), ?_⟩
    refine ⟨fun σ H1 => ∃ r : Int, σ = [some (.ref d), some (.int m), some (.int r), none] ∧ 0 ≤ r ∧ (m = 0 → r < 3) ∧ Tape H1 d c ∧ Kept d H H1, ?_, ?_⟩
    · refine ⟨_, rfl, _, _, rfl, rfl, _, rfl, ?_⟩
      refine ite2 (fun c1 => ?_) (fun c1 => ?_)
      · have c1 : (0 : Int) < m := of_decide_eq_true c1
        refine ⟨_, rfl, d, c, 8, rfl, hT, by decide, by decide, fun r H1 r0 r1 T1 O1 => ?_⟩
        exact ⟨r, rfl, r0, fun q => by omega, T1, O1.kept⟩
      · refine ⟨_, rfl, d, c, 3, rfl, hT, by decide, by decide, fun r H1 r0 r1 T1 O1 => ?_⟩
        exact ⟨r, rfl, r0, fun q => r1, T1, O1.kept⟩
    · rintro σ H1 ⟨r, rfl, r0, rm, T1, K1⟩
      refine ⟨_, rfl, rfl, _, rfl, ?_⟩
      refine ite2 (fun c1 => ?_) (fun c1 => ?_)
      · refine ⟨_, rfl, d, c, rfl, T1, fun x H2 hx T2 K2 => ⟨by show 2 ≤ sizeLine; decide, fun p hp => ?_⟩⟩
        refine k (.ref p) (.num x) _ hx (Nat.zero_le _) (num_dt upd_same) (T2.keep (same_upd hp)) ((K1.trans K2).trans (Kept.of (same_upd hp)))
      have c1 : ¬ r = 0 := fun q => c1 (decide_eq_true (by rw [q]))
      refine ⟨_, rfl, _, _, rfl, rfl, _, rfl, ?_⟩
      refine ite2 (fun c2 => ?_) (fun c2 => ?_)
      · refine ⟨by show 3 ≤ sizeLine; decide, fun l hl => ?_⟩
        refine ⟨_, rfl, d, c, 3, rfl, T1.keep (same_upd hl), by decide, by decide, fun q H2 q0 q1 T2 O2 => ?_⟩
        obtain ⟨x, hx, e⟩ := pick_of (xs := [.str "n", .str "m", .str "k"]) q0 q1
        refine ⟨l, _, _, _, rfl, rfl, SqL.of (by rw [O2 l (T1.ne hl).1]; exact upd_same), e, ?_⟩
        refine ⟨by show 2 ≤ sizeLine; decide, fun p hp => ?_⟩
        have kp0 := (K1.trans (Kept.of (same_upd (o := .lst [.str "n", .str "m", .str "k"]) hl))).trans O2.kept
        have kp : ∀ o, Kept d H (upd H2 p o) := fun o => kp0.trans (Kept.of (same_upd hp))
        simp only [List.mem_cons, List.not_mem_nil, or_false] at hx
        rcases hx with rfl | rfl | rfl
        · exact k (.ref p) (.name "n") _ (.inl rfl) (Nat.zero_le _) (name_dt upd_same) (T2.keep (same_upd hp)) (kp _)
        · exact k (.ref p) (.name "m") _ (.inr (.inl rfl)) (Nat.zero_le _) (name_dt upd_same) (T2.keep (same_upd hp)) (kp _)
        · exact k (.ref p) (.name "k") _ (.inr (.inr rfl)) (Nat.zero_le _) (name_dt upd_same) (T2.keep (same_upd hp)) (kp _)
      have c2 : ¬ r < 3 := fun q => c2 (decide_eq_true q)
      have hm0 : 1 ≤ m := by
        cases m with
        | zero => exact absurd (rm rfl) c2
        | succ m => omega
      refine ⟨by show 7 ≤ sizeLine; decide, fun l hl => ?_⟩
      refine ⟨_, rfl, d, c, 7, rfl, T1.keep (same_upd hl), by decide, by decide, fun q H2 q0 q1 T2 O2 => ?_⟩
      obtain ⟨x, hx, e⟩ := pick_of (xs := [.str "+", .str "-", .str "*", .str "<", .str "==", .str "<", .str "-"]) q0 q1
      refine ⟨l, _, _, _, rfl, rfl, SqL.of (by rw [O2 l (T1.ne hl).1]; exact upd_same), e, ?_⟩
      obtain ⟨sg, rfl, hsg⟩ : ∃ sg : Str, x = .str sg ∧ (sg = "+" ∨ sg = "-" ∨ sg = "*" ∨ sg = "<" ∨ sg = "==") := by
        simp only [List.mem_cons, List.not_mem_nil, or_false] at hx
        rcases hx with rfl | rfl | rfl | rfl | rfl | rfl | rfl
        · exact ⟨_, rfl, .inl rfl⟩
        · exact ⟨_, rfl, .inr (.inl rfl)⟩
        · exact ⟨_, rfl, .inr (.inr (.inl rfl))⟩
        · exact ⟨_, rfl, .inr (.inr (.inr (.inl rfl)))⟩
        · exact ⟨_, rfl, .inr (.inr (.inr (.inr rfl)))⟩
        · exact ⟨_, rfl, .inr (.inr (.inr (.inl rfl)))⟩
        · exact ⟨_, rfl, .inr (.inl rfl)⟩
      have em : ((m : Int) - 1) = ((m - 1 : Nat) : Int) := by omega
      refine ⟨_, rfl, _, rfl, _, rfl, _, _, rfl, rfl, d, c, m - 1, congrArg (fun i => [V.ref d, V.int i]) em, by omega, by omega, T2, fun v3 x3 H3 o3 p3 a3 T3 K3 => ?_⟩
      refine ⟨_, rfl, _, rfl, _, _, rfl, rfl, d, c, m - 1, congrArg (fun i => [V.ref d, V.int i]) em, by omega, by omega, T3, fun v4 x4 H4 o4 p4 a4 T4 K4 => ?_⟩
      refine ⟨by show 3 ≤ sizeLine; decide, fun p hp => ?_⟩
      refine k (.ref p) (.op sg x3 x4) _ ⟨hsg, o3, o4⟩ (by show max x3.dep x4.dep + 1 ≤ m; omega) ?_ (T4.keep (same_upd hp)) (((((K1.trans (Kept.of (same_upd hl))).trans O2.kept).trans K3).trans K4).trans (Kept.of (same_upd hp)))
      exact op_at upd_same (At.keep (same_upd hp) (At.rws (T3.rws K4) a3)) (At.keep (same_upd hp) a4)
end
end OS

namespace OS
open PySem PySem.Spec PyProof.Rows L2
/-! ### trees are drawn: statements -/
/-- the names that are drawn -/
def Nm (x : Str) : Prop := x = "a" ∨ x = "b" ∨ x = "c" ∨ x = "d" ∨ x = "x" ∨ x = "y" ∨ x = "z" ∨ x = "n" ∨ x = "m" ∨ x = "k" ∨ x = "go" ∨ x = "no" ∨ x = "ask" ∨ x = "p0" ∨ x = "p1"
def Val.wd : Val → Nat
  | .num _ => 3
  | .name _ => 3
  | .op _ a b => 3 + a.wd + b.wd
def fwd : Nat → Nat
  | 0 => 3
  | n + 1 => 3 + fwd n + fwd n
theorem fwd_mono : ∀ {m n : Nat}, m ≤ n → fwd m ≤ fwd n
  | 0, 0, _ => Nat.le_refl _
  | 0, n + 1, _ => by
    have := fwd_mono (Nat.zero_le n)
    show fwd 0 ≤ 3 + fwd n + fwd n
    omega
  | m + 1, n + 1, h => by
    have := fwd_mono (Nat.le_of_succ_le_succ h)
    show 3 + fwd m + fwd m ≤ 3 + fwd n + fwd n
    omega
theorem wd_le : ∀ (x : Val), x.wd ≤ fwd x.dep
  | .num _ => Nat.le_refl _
  | .name _ => Nat.le_refl _
  | .op _ a b => by
    have h1 := Nat.le_trans (wd_le a) (fwd_mono (Nat.le_max_left a.dep b.dep))
    have h2 := Nat.le_trans (wd_le b) (fwd_mono (Nat.le_max_right a.dep b.dep))
    show 3 + a.wd + b.wd ≤ 3 + fwd (max a.dep b.dep) + fwd (max a.dep b.dep)
    omega
mutual
def Stm.wd : Stm → Nat
  | .msg _ _ _ v _ => 9 + v.wd
  | .set _ _ v => 4 + v.wd
  | .ask _ _ => 3
  | .call _ cs => 4 + 2 * cs.length
  | .ite _ v yes no => 4 + v.wd + (2 + blkWd yes) + (2 + blkWd no)
  | .whl _ v b => 3 + v.wd + (2 + blkWd b)
def blkWd : List Stm → Nat
  | [] => 0
  | s :: r => s.wd + blkWd r
end
mutual
def Stm.nst : Stm → Nat
  | .ite _ _ yes no => max (blkNst yes) (blkNst no) + 1
  | .whl _ _ b => blkNst b + 1
  | _ => 0
def blkNst : List Stm → Nat
  | [] => 0
  | s :: r => max s.nst (blkNst r)
end
theorem blkNst_snoc : ∀ {b : List Stm} {s : Stm} {m : Nat}, blkNst b ≤ m → s.nst ≤ m → blkNst (b ++ [s]) ≤ m
  | [], s, m, _, h => by
    show max s.nst 0 ≤ m
    omega
  | x :: r, s, m, hb, h => by
    have hb : max x.nst (blkNst r) ≤ m := hb
    have := blkNst_snoc (b := r) (s := s) (m := m) (by omega) h
    show max x.nst (blkNst (r ++ [s])) ≤ m
    omega
/-- a value that is drawn -/
def VO2 (v : Val) : Prop := VOk v ∧ v.dep ≤ 2
mutual
def SOk : Stm → Prop
  | .msg a b l v x => Nm a ∧ Nm b ∧ Nm l ∧ VO2 v ∧ Nm x
  | .set e x v => Nm e ∧ Nm x ∧ VO2 v
  | .ask e x => Nm e ∧ Nm x
  | .call p cs => Nm p ∧ cs ≠ [] ∧ ∀ e ∈ cs, Nm e
  | .ite e v yes no => Nm e ∧ VO2 v ∧ blkOk yes ∧ blkOk no
  | .whl e v b => Nm e ∧ VO2 v ∧ blkOk b
def blkOk : List Stm → Prop
  | [] => True
  | s :: r => SOk s ∧ blkOk r
end
theorem blkOk_snoc : ∀ {b : List Stm} {s : Stm}, blkOk b → SOk s → blkOk (b ++ [s])
  | [], s, _, h => by
    show SOk s ∧ True
    exact ⟨h, trivial⟩
  | x :: r, s, hb, h => by
    have hb' : SOk x ∧ blkOk r := hb
    show SOk x ∧ blkOk (r ++ [s])
    exact ⟨hb'.1, blkOk_snoc hb'.2 h⟩
theorem blkWd_snoc : ∀ (b : List Stm) (s : Stm), blkWd (b ++ [s]) = blkWd b + s.wd
  | [], s => by
    show s.wd + 0 = 0 + s.wd
    omega
  | x :: r, s => by
    show x.wd + blkWd (r ++ [s]) = x.wd + blkWd r + s.wd
    rw [blkWd_snoc r s]
    omega
def gwd : Nat → Nat
  | 0 => 25
  | n + 1 => 20 + 6 * gwd n
section
variable {P : Program} {w : World} {K : PySem.W.Frag} {mg : Str → Option Value} {base : Heap}
def spTwo : Sp := fun vs H Q _ => ∃ (d c pe : Addr) (es : List Str), vs = [.ref d, .ref pe] ∧ Tape H d c ∧ H pe = some (.tup (es.map V.str)) ∧ 2 ≤ es.length ∧ es.length ≤ 1000 ∧
  ∀ (a b : Str) (p : Addr) H', a ∈ es → b ∈ es → H' p = some (.tup [.str a, .str b]) → Tape H' d c → Kept d H H' → Q (.ref p) H'
theorem str_at {es : List Str} {r : Int} (h0 : 0 ≤ r) (h1 : r < (es.length : Int)) : ∃ x ∈ es, atI (es.map V.str) r = some (.str x) := by
  obtain ⟨i, rfl⟩ := Int.eq_ofNat_of_zero_le h0
  have hi : i < es.length := by omega
  refine ⟨es[i], List.getElem_mem hi, atI_nat ?_⟩
  rw [List.getElem?_map, List.getElem?_eq_getElem hi]
  rfl
theorem ok_law_two {f : Addr} {fd : FuncData} (F : Fun K "_law_two" "_law_two" s__law_two f fd) (T : Txt K mg) {f__law_take : Addr} {d__law_take : FuncData} (c__law_take : Cal P w K mg base 1 "_law_take" ["tape", "many"] spTake f__law_take d__law_take) : FnOk P w K mg base CX0 2 f fd ["tape", "ends"] spTwo := by
  refine F.ok sc__law_two (fun vs H Q E h => ?_) (fun cdv A outer s H vs Q E hr h => ?_)
  · obtain ⟨d, c, pe, es, rfl, _⟩ := h
    rfl
  · obtain ⟨d, c, pe, es, rfl, hT, he, h2, h3, k⟩ := h
    have hT0 := hT
    obtain ⟨ns0, i0, l0, se0, sa0, t0⟩ := id hT
    have ped : pe ≠ d := ne_of he t0.hd (by intro z; cases z)
    refine ⟨_, (pss_cons (ps_set (i := 2) sc__law_two.nd rfl (.inl rfl) (pe_call c__law_take.G (hr.mono (by decide)) (by rfl) c__law_take.m c__law_take.k c__law_take.b .nil pass0 (pa_cons (pv 0) (pa_cons (pe_callB call_len_seq (by rfl) T.len PySem.boot_len (pa_cons (pv 1) pa_nil)) pa_nil))))
      (pss_cons (ps_set (i := 3) sc__law_two.nd rfl (.inl rfl) (pe_call c__law_take.G (hr.mono (by decide)) (by rfl) c__law_take.m c__law_take.k c__law_take.b .nil pass0 (pa_cons (pv 0) (pa_cons (pe_op op_sub (pe_callB call_len_seq (by rfl) T.len PySem.boot_len (pa_cons (pv 1) pa_nil)) pe_int) pa_nil))))
      (pss_one (ps_ret (pe_tup (pa_cons (pe_ix ix_tup (pv 1) (pv 2) (fun _ _ => rfl)) (pa_cons (pe_ix ix_tup (pv 1) (pe_ifExp (pt_cmpR op_lt (pv 3) (pv 2) (nomark _)) (pv 3) (pe_op op_add (pv 3) pe_int)) (fun _ _ => rfl)) pa_nil))))))), ?_⟩
    refine ⟨_, rfl, _, rfl, pe, _, rfl, .inr (SqT.of he), ?_⟩
    rw [List.length_map]
    refine ⟨d, c, (es.length : Int), rfl, hT, by omega, by omega, fun r1 H1 a0 a1 T1 O1 => ?_⟩
    have he1 : H1 pe = some (.tup (es.map V.str)) := by rw [O1 pe ped]; exact he
    refine ⟨_, rfl, _, rfl, pe, _, rfl, .inr (SqT.of he1), _, _, rfl, rfl, ?_⟩
    rw [List.length_map]
    refine ⟨d, c, (es.length : Int) - 1, rfl, T1, by omega, by omega, fun r2 H2 b0 b1 T2 O2 => ?_⟩
    have he2 : H2 pe = some (.tup (es.map V.str)) := by rw [O2 pe ped]; exact he1
    obtain ⟨x, hx, ex⟩ := str_at a0 a1
    refine ⟨_, rfl, _, rfl, pe, _, _, _, rfl, rfl, SqT.of he2, ex, ?_⟩
    refine ⟨_, rfl, _, rfl, _, rfl, _, _, rfl, rfl, _, rfl, ?_⟩
    have fin : ∀ r3 : Int, 0 ≤ r3 → r3 < (es.length : Int) → ∀ {Q1 : V → Hp → Prop}, (∀ y : Str, y ∈ es → Q1 (.str y) H2) → ∃ (a : Addr) (xs : List V) (i : Int) (v : V), V.ref pe = .ref a ∧ V.int r3 = .int i ∧ SqT K H2 a xs ∧ atI xs i = some v ∧ Q1 v H2 := fun r3 c0 c1 Q1 q => by
      obtain ⟨y, hy, ey⟩ := str_at c0 c1
      exact ⟨pe, _, _, _, rfl, rfl, SqT.of he2, ey, q y hy⟩
    have stop : ∀ y : Str, y ∈ es → 2 ≤ sizeLine ∧ ∀ p, H2 p = none → Q (.ref p) (upd H2 p (.tup [.str x, .str y])) := fun y hy => ⟨by decide, fun p hp => k x y p _ hx hy upd_same (T2.keep (same_upd hp)) ((O1.kept.trans O2.kept).trans (Kept.of (same_upd hp)))⟩
    refine ite2 (fun c1 => ?_) (fun c1 => ?_)
    · have c1 : r2 < r1 := of_decide_eq_true c1
      refine ⟨_, rfl, fin r2 b0 (by omega) stop⟩
    · have c1 : ¬ r2 < r1 := fun q => c1 (decide_eq_true q)
      refine ⟨_, rfl, _, _, rfl, rfl, fin (r2 + 1) (by omega) (by omega) stop⟩
/-- a part that is drawn -/
def POk (p : Prt) : Prop := Nm p.name ∧ p.params ≠ [] ∧ (∀ e ∈ p.params, Nm e) ∧ p.params.length ≤ 3 ∧ blkOk p.body ∧ blkNst p.body ≤ 1
/-- what a statement is drawn from -/
structure Src (K : PySem.W.Frag) (H : Hp) (d c pe pl : Addr) (es : List Str) (ps : List Prt) : Prop where
  T : Tape H d c
  he : H pe = some (.tup (es.map V.str))
  e1 : 1 ≤ es.length
  e2 : es.length ≤ 4
  en : es.Nodup
  eo : ∀ e ∈ es, Nm e
  pl : ∃ vs, H pl = some (.lst vs) ∧ AtL K H (ps.map Prt.dt) vs
  po : ∀ p ∈ ps, POk p
  pn : ps.length ≤ 10
theorem Src.next {K : PySem.W.Frag} {H H' : Hp} {d c pe pl : Addr} {es : List Str} {ps : List Prt} (s : Src K H d c pe pl es ps) (T' : Tape H' d c) (q : Kept d H H') : Src K H' d c pe pl es ps := by
  have w := s.T.rws q
  obtain ⟨vs, h1, h2⟩ := s.pl
  exact ⟨T', w.1 _ _ s.he, s.e1, s.e2, s.en, s.eo, ⟨vs, w.2 _ _ h1, AtL.rws w h2⟩, s.po, s.pn⟩
theorem Src.put {K : PySem.W.Frag} {H : Hp} {d c pe pl D : Addr} {es : List Str} {ps : List Prt} {xs ys : List V} (s : Src K H d c pe pl es ps) (hl : H D = some (.lst xs)) (hd : D ≠ d ∧ D ≠ c) (hp : D ≠ pl) : Src K (upd H D (.lst ys)) d c pe pl es ps := by
  obtain ⟨vs, h1, h2⟩ := s.pl
  exact ⟨s.T.put hd, by rw [upd_ne (ne_of s.he hl (by intro z; cases z))]; exact s.he, s.e1, s.e2, s.en, s.eo, ⟨vs, by rw [upd_ne hp.symm]; exact h1, AtL.offL hl (prts_noL ps) h2⟩, s.po, s.pn⟩
def spStm (K : PySem.W.Frag) (n : Nat) : Sp := fun vs H Q _ => ∃ (d c pe pl : Addr) (es : List Str) (ps : List Prt) (m : Nat), vs = [.ref d, .ref pe, .ref pl, .int m] ∧ m < n ∧ m ≤ 1000 ∧ Src K H d c pe pl es ps ∧
  ∀ (v : V) (x : Stm) H', SOk x → (x.wd ≤ gwd m ∧ x.nst ≤ m) → At K H' x.dt v → Tape H' d c → Kept d H H' → Q v H'
def spBlk (K : PySem.W.Frag) (n : Nat) : Sp := fun vs H Q _ => ∃ (d c pe pl : Addr) (es : List Str) (ps : List Prt) (m k : Nat), vs = [.ref d, .ref pe, .ref pl, .int m, .int k] ∧ m < n ∧ m ≤ 1000 ∧ k ≤ 5 ∧ Src K H d c pe pl es ps ∧
  ∀ (v : V) (x : List Stm) H', blkOk x → (blkWd x ≤ k * gwd m ∧ blkNst x ≤ m) → At K H' (blkDt x) v → Tape H' d c → Kept d H H' → Q v H'
theorem stm_none {f : Addr} {fd : FuncData} {ps : List Str} : FnOk P w K mg base CX0 (8+2*0) f fd ps (spStm K 0) := by
  have no : ∀ vs H Q E, ¬ spStm K 0 vs H Q E := fun vs H Q E h => by
    obtain ⟨_, _, _, _, _, _, m, _, h, _⟩ := h
    omega
  exact ⟨fun vs H Q E h => absurd h (no vs H Q E), fun A outer s H args us vs Q E _ _ _ _ h => absurd h (no vs H Q E)⟩
theorem ok_law_block {f : Addr} {fd : FuncData} (F : Fun K "_law_block" "_law_block" s__law_block f fd) (T : Txt K mg) (n : Nat) {f__law_take : Addr} {d__law_take : FuncData} (c__law_take : Cal P w K mg base 1 "_law_take" ["tape", "many"] spTake f__law_take d__law_take) {f__law_statement : Addr} {d__law_statement : FuncData} (c__law_statement : Cal P w K mg base (8+2*n) "_law_statement" ["tape", "ends", "parts", "depth"] (spStm K n) f__law_statement d__law_statement) : FnOk P w K mg base CX0 (8+2*n+1) f fd ["tape", "ends", "parts", "depth", "most"] (spBlk K n) := by
  refine F.ok sc__law_block (fun vs H Q E h => ?_) (fun cdv A outer s H vs Q E hr h => ?_)
  · obtain ⟨d, c, pe, pl, es, ps, m, k, rfl, _⟩ := h
    rfl
  · obtain ⟨d, c, pe, pl, es, ps, m, most, rfl, hm, hm1, hk, S, k⟩ := h
    refine ⟨_, (pss_one (ps_ret (pe_callTy call_tuple_of (by rfl) T.tuple (by decide +kernel) (pa_cons (pe_lc (own := [("k", 5)]) (g := gName 5) (by rfl) sc__law_block.nd (pi_range1 (by rfl) T.range (pa_cons (pe_call c__law_take.G (hr.mono (by omega)) (by rfl) c__law_take.m c__law_take.k c__law_take.b .nil pass0 (pa_cons (pv 0) (pa_cons (pe_op op_add (pv 4) pe_int) pa_nil))) pa_nil)) (blkOk_by (N := ["tape", "ends", "parts", "depth", "most", "k"]) (sc := defScope s__law_block) (by decide +kernel)) (fun _ _ _ _ _ => pg_name (i := 5) sc__law_block.nd rfl (Or.inl rfl)) (fun _ _ _ _ _ => pts_nil) (fun _ _ _ _ _ => (pe_call c__law_statement.G (hr.mono (by omega)) (by rfl) c__law_statement.m c__law_statement.k c__law_statement.b .nil pass0 (pa_cons (pv 0) (pa_cons (pv 1) (pa_cons (pv 2) (pa_cons (pv 3) pa_nil))))))) pa_nil)))), ?_⟩
    refine ⟨_, rfl, _, rfl, _, _, rfl, rfl, d, c, (most : Int) + 1, rfl, S.T, by omega, by omega, fun r H1 r0 r1 T1 O1 => ?_⟩
    obtain ⟨n1, rfl⟩ := Int.eq_ofNat_of_zero_le r0
    refine ⟨_, rfl, by omega, by omega, fun D nD => ?_⟩
    have S1 := S.next T1 O1.kept
    obtain ⟨pv, hp1, hp2⟩ := id S1.pl
    have Dp : D ≠ pl := (ne_of_none hp1 nD).symm
    have Dd := T1.ne nD
    have nD0 : H D = none := (O1 D Dd.1).symm.trans nD
    refine lc_range (n := n1) (fun i H' => ∃ (xs : List Stm) (vs : List V), H' D = some (.lst vs) ∧ AtL K H' (blkDts xs) vs ∧ blkOk xs ∧ (blkWd xs ≤ i * gwd m ∧ blkNst xs ≤ m) ∧ xs.length = i ∧ Src K H' d c pe pl es ps ∧ Kept d H H')
      ⟨[], [], upd_same, by simp only [blkDts, AtL], trivial, ⟨Nat.zero_le _, Nat.zero_le _⟩, rfl, S1.next (T1.keep (same_upd nD)) (Kept.of (same_upd nD)), O1.kept.upd nD0⟩ ?_ ?_
    · rintro i H2 hi ⟨xs, vs, hD, hat, ho, hw, hl, S2, K2⟩
      refine ⟨rfl, iteT (B := True) ?_⟩
      refine ⟨_, rfl, _, rfl, _, rfl, _, rfl, d, c, pe, pl, es, ps, m, rfl, hm, hm1, S2, fun v x H3 ox wx ax T3 K3 => ?_⟩
      have w3 := S2.T.rws K3
      have hD3 := w3.2 _ _ hD
      refine ⟨vs, hD3, ?_, xs ++ [x], vs ++ [v], upd_same, ?_, blkOk_snoc ho ox, ?_, ?_, (S2.next T3 K3).put hD3 Dd Dp, (K2.trans K3).upd nD0⟩
      · have e1 := hat.length
        have e2 := blkDts_len xs
        rw [e1, e2, hl]
        exact sz6' (by omega)
      · rw [blkDts_snoc]
        exact AtL.snoc (At.offL hD3 (Stm.noL x) ax) (AtL.offL hD3 (blk_noL xs) (AtL.rws w3 hat))
      · refine ⟨?_, blkNst_snoc hw.2 wx.2⟩
        have h1 := hw.1
        have h2 := wx.1
        rw [blkWd_snoc, Nat.succ_mul]
        omega
      · rw [List.length_append, hl]
        rfl
    · rintro H2 ⟨xs, vs, hD, hat, ho, hw, hl, S2, K2⟩
      refine ⟨D, vs, rfl, .inl ⟨SqL.of hD, fun t ht => ?_⟩⟩
      refine k (.ref t) xs _ ho ?_ ?_ (S2.T.keep (same_upd ht)) (K2.trans (Kept.of (same_upd ht)))
      · refine ⟨Nat.le_trans hw.1 (Nat.mul_le_mul_right _ ?_), hw.2⟩
        omega
      · unfold blkDt At
        exact ⟨t, vs, rfl, upd_same, AtL.keep (same_upd ht) hat⟩
end
end OS

namespace OS
open PySem PySem.Spec PyProof.Rows L2
/-! ### what drawing parts wants -/
theorem inV_str (x : Str) : ∀ (cs : List Str), inV (.str x) (cs.map V.str) = decide (x ∈ cs)
  | [] => rfl
  | c :: r => by
    have ih := inV_str x r
    unfold inV at ih ⊢
    rw [List.map_cons, List.any_cons, ih]
    show ((c == x) || _) = _
    by_cases h : c = x
    · subst h
      simp
    · have h' : ¬ x = c := fun q => h q.symm
      rw [beq_eq_false_iff_ne.mpr h, Bool.false_or]
      simp [h']
theorem nodup_len : ∀ {es cs : List Str}, es.Nodup → (∀ e ∈ es, e ∈ cs) → es.length ≤ cs.length
  | [], _, _, _ => Nat.zero_le _
  | e :: r, cs, hn, hs => by
    rw [List.nodup_cons] at hn
    have h1 := hs e (List.mem_cons_self ..)
    have h2 := nodup_len (es := r) (cs := cs.erase e) hn.2 fun x hx => (List.mem_erase_of_ne (fun (q : x = e) => hn.1 (by rw [← q]; exact hx))).mpr (hs x (List.mem_cons_of_mem _ hx))
    rw [List.length_erase_of_mem h1] at h2
    have := List.length_pos_of_mem h1
    rw [List.length_cons]
    omega
theorem AtL.inv {K : PySem.W.Frag} {H : Hp} : ∀ {ds : List Dt} {vs : List V} {i : Nat} {v : V}, AtL K H ds vs → vs[i]? = some v → ∃ d, ds[i]? = some d ∧ At K H d v
  | [], vs, i, v, h, e => by
    unfold AtL at h
    subst h
    simp at e
  | d :: ds, vs, 0, v, h, e => by
    unfold AtL at h
    obtain ⟨u, r, rfl, hd, _⟩ := h
    have e : u = v := Option.some.inj e
    subst e
    exact ⟨d, rfl, hd⟩
  | d :: ds, vs, i + 1, v, h, e => by
    unfold AtL at h
    obtain ⟨u, r, rfl, _, h⟩ := h
    exact AtL.inv (ds := ds) (vs := r) (i := i) h e
theorem flat_inv {K : PySem.W.Frag} {H : Hp} : ∀ {es : List Str} {vs : List V}, AtL K H (es.map Dt.str) vs → vs = es.map V.str
  | [], vs, h => by
    simp only [List.map_nil, AtL] at h
    exact h
  | e :: r, vs, h => by
    rw [List.map_cons] at h
    unfold AtL At at h
    obtain ⟨v, q, rfl, rfl, h⟩ := h
    rw [List.map_cons, flat_inv h]
theorem names_inv {K : PySem.W.Frag} {H : Hp} {es : List Str} {v : V} (h : At K H (namesDt es) v) : ∃ q, v = .ref q ∧ H q = some (.tup (es.map V.str)) := by
  unfold namesDt At at h
  obtain ⟨p, vs, rfl, hp, hl⟩ := h
  rw [flat_inv hl] at hp
  exact ⟨p, rfl, hp⟩
theorem prt_inv {K : PySem.W.Frag} {H : Hp} {p : Prt} {v : V} (h : At K H p.dt v) : ∃ a q u, v = .ref a ∧ H a = some (.tup [.str p.name, .ref q, u]) ∧ H q = some (.tup (p.params.map V.str)) ∧ At K H (blkDt p.body) u := by
  unfold Prt.dt at h
  rw [At] at h
  obtain ⟨a, vs, rfl, ha, hl⟩ := h
  simp only [AtL] at hl
  obtain ⟨v1, r1, rfl, h1, v2, r2, rfl, h2, v3, r3, rfl, h3, rfl⟩ := hl
  unfold At at h1
  subst h1
  obtain ⟨q, rfl, hq⟩ := names_inv h2
  exact ⟨a, q, v3, rfl, ha, hq, h3⟩
mutual
def Dt.py : Dt → PyData
  | .non => .none
  | .bl b => .bool b
  | .int i => .int i
  | .str x => .str x
  | .tup xs => .tuple (pys xs)
  | .lst xs => .list (pys xs)
def pys : List Dt → List PyData
  | [] => []
  | d :: r => d.py :: pys r
end
mutual
theorem At.dp {K : PySem.W.Frag} {H : Hp} : ∀ {d : Dt} {v : V}, At K H d v → Dp K H v d.py
  | .non, v, h => by unfold At at h; subst h; exact .non
  | .bl b, v, h => by unfold At at h; subst h; exact .bl b
  | .int i, v, h => by unfold At at h; subst h; exact .int i
  | .str x, v, h => by unfold At at h; subst h; exact .str x
  | .tup xs, v, h => by
    unfold At at h
    obtain ⟨p, vs, rfl, hp, hl⟩ := h
    exact .tup (SqT.of hp) (AtL.dp hl)
  | .lst xs, v, h => by
    unfold At at h
    obtain ⟨p, vs, rfl, hp, hl⟩ := h
    exact .lst (SqL.of hp) (AtL.dp hl)
theorem AtL.dp {K : PySem.W.Frag} {H : Hp} : ∀ {ds : List Dt} {vs : List V}, AtL K H ds vs → DpAll K H vs (pys ds)
  | [], vs, h => by unfold AtL at h; subst h; exact .nil
  | d :: ds, vs, h => by
    unfold AtL at h
    obtain ⟨v, r, rfl, hd, hl⟩ := h
    exact .cons (At.dp hd) (AtL.dp hl)
end
/-- a list against the empty one -/
theorem op_eqN {X : Cx} (hu : X.A.units + 64 < cLine) : OpR X (compareOp .Eq) (fun x y H Q => ∃ a b xs ds, x = .ref a ∧ y = .ref b ∧ SqL X.K H a xs ∧ AtL X.K H ds xs ∧ PyData.canLayAll0 (pys ds) = true ∧ SqL X.K H b [] ∧ Q (.bl ds.isEmpty) H) := by
  intro pins s σ H x y v u Q I rx ry h
  obtain ⟨a, b, xs, ds, rfl, rfl, hq, hd, hc, hb, q⟩ := h
  obtain ⟨as, r1⟩ := Dp.reads I (.list (pys ds)) (.ref a) v (.lst hq (AtL.dp hd)) rx
  obtain ⟨bs, r2⟩ := Dp.reads I (.list []) (.ref b) u (.lst hb .nil) ry
  refine SeqAt.compareEq_reads r1 r2 hc rfl ?_ ⟨.bl _, H, I, ?_, q⟩
  · have h2 : min (PyData.list (pys ds)).depth (PyData.list []).depth ≤ (PyData.list []).depth := Nat.min_le_right _ _
    have h3 : (PyData.list []).depth ≤ 64 := by decide
    omega
  · cases ds <;> rfl
theorem lay_int (i : Int) : (Dt.int i).py.canLay0 = true := by simp [Dt.py, PyData.canLay0]
theorem lay_str {x : Str} (h : PyData.strOk x = true) : (Dt.str x).py.canLay0 = true := by simp [Dt.py, PyData.canLay0, h]
theorem lay_tup {xs : List Dt} (h : PyData.canLayAll0 (pys xs) = true) : (Dt.tup xs).py.canLay0 = true := by simp [Dt.py, PyData.canLay0, h]
theorem lay_nil : PyData.canLayAll0 (pys []) = true := by simp [pys, PyData.canLayAll0]
theorem lay_cons {d : Dt} {r : List Dt} (h : d.py.canLay0 = true) (hr : PyData.canLayAll0 (pys r) = true) : PyData.canLayAll0 (pys (d :: r)) = true := by
  rw [pys, PyData.canLayAll0, h, hr]
  rfl
theorem nm_ok {x : Str} (h : Nm x) : PyData.strOk x = true := by
  unfold Nm at h
  rcases h with rfl | rfl | rfl | rfl | rfl | rfl | rfl | rfl | rfl | rfl | rfl | rfl | rfl | rfl | rfl <;> decide +kernel
theorem lay_names : ∀ {es : List Str}, (∀ e ∈ es, Nm e) → PyData.canLayAll0 (pys (es.map Dt.str)) = true
  | [], _ => lay_nil
  | e :: r, h => lay_cons (lay_str (nm_ok (h e (List.mem_cons_self ..)))) (lay_names fun x hx => h x (List.mem_cons_of_mem _ hx))
theorem val_lay : ∀ (x : Val), VOk x → x.dt.py.canLay0 = true
  | .num n, _ => by
    unfold Val.dt
    exact lay_tup (lay_cons (lay_str (by decide +kernel)) (lay_cons (lay_int n) lay_nil))
  | .name x, h => by
    have h' : x = "n" ∨ x = "m" ∨ x = "k" := h
    unfold Val.dt
    refine lay_tup (lay_cons (lay_str (by decide +kernel)) (lay_cons (lay_str ?_) lay_nil))
    rcases h' with rfl | rfl | rfl <;> decide +kernel
  | .op s a b, h => by
    obtain ⟨h1, h2, h3⟩ : (s = "+" ∨ s = "-" ∨ s = "*" ∨ s = "<" ∨ s = "==") ∧ VOk a ∧ VOk b := h
    unfold Val.dt
    refine lay_tup (lay_cons (lay_str ?_) (lay_cons (val_lay a h2) (lay_cons (val_lay b h3) lay_nil)))
    rcases h1 with rfl | rfl | rfl | rfl | rfl <;> decide +kernel
mutual
theorem stm_lay : ∀ (x : Stm), SOk x → x.dt.py.canLay0 = true
  | .msg a b l v x, h => by
    obtain ⟨h1, h2, h3, h4, h5⟩ : Nm a ∧ Nm b ∧ Nm l ∧ VO2 v ∧ Nm x := h
    unfold Stm.dt
    exact lay_tup (lay_cons (lay_str (by decide +kernel)) (lay_cons (lay_str (nm_ok h1)) (lay_cons (lay_str (nm_ok h2)) (lay_cons (lay_str (nm_ok h3)) (lay_cons (val_lay v h4.1) (lay_cons (lay_str (nm_ok h5)) lay_nil))))))
  | .set e x v, h => by
    obtain ⟨h1, h2, h4⟩ : Nm e ∧ Nm x ∧ VO2 v := h
    unfold Stm.dt
    exact lay_tup (lay_cons (lay_str (by decide +kernel)) (lay_cons (lay_str (nm_ok h1)) (lay_cons (lay_str (nm_ok h2)) (lay_cons (val_lay v h4.1) lay_nil))))
  | .ask e x, h => by
    obtain ⟨h1, h2⟩ : Nm e ∧ Nm x := h
    unfold Stm.dt
    exact lay_tup (lay_cons (lay_str (by decide +kernel)) (lay_cons (lay_str (nm_ok h1)) (lay_cons (lay_str (nm_ok h2)) lay_nil)))
  | .call p cs, h => by
    obtain ⟨h1, _, h2⟩ : Nm p ∧ cs ≠ [] ∧ ∀ e ∈ cs, Nm e := h
    unfold Stm.dt namesDt
    exact lay_tup (lay_cons (lay_str (by decide +kernel)) (lay_cons (lay_str (nm_ok h1)) (lay_cons (lay_tup (lay_names h2)) lay_nil)))
  | .ite e v yes no, h => by
    obtain ⟨h1, h2, h3, h4⟩ : Nm e ∧ VO2 v ∧ blkOk yes ∧ blkOk no := h
    unfold Stm.dt
    exact lay_tup (lay_cons (lay_str (by decide +kernel)) (lay_cons (lay_str (nm_ok h1)) (lay_cons (val_lay v h2.1) (lay_cons (lay_tup (blk_lay yes h3)) (lay_cons (lay_tup (blk_lay no h4)) lay_nil)))))
  | .whl e v b, h => by
    obtain ⟨h1, h2, h3⟩ : Nm e ∧ VO2 v ∧ blkOk b := h
    unfold Stm.dt
    exact lay_tup (lay_cons (lay_str (by decide +kernel)) (lay_cons (lay_str (nm_ok h1)) (lay_cons (val_lay v h2.1) (lay_cons (lay_tup (blk_lay b h3)) lay_nil))))
theorem blk_lay : ∀ (b : List Stm), blkOk b → PyData.canLayAll0 (pys (blkDts b)) = true
  | [], _ => by unfold blkDts; exact lay_nil
  | s :: r, h => by
    obtain ⟨h1, h2⟩ : SOk s ∧ blkOk r := h
    unfold blkDts
    exact lay_cons (stm_lay s h1) (blk_lay r h2)
end
theorem prts_lay : ∀ {ps : List Prt}, (∀ p ∈ ps, POk p) → PyData.canLayAll0 (pys (ps.map Prt.dt)) = true
  | [], _ => lay_nil
  | p :: r, h => by
    obtain ⟨h1, _, h2, _, h3, _⟩ := h p (List.mem_cons_self ..)
    refine lay_cons ?_ (prts_lay fun x hx => h x (List.mem_cons_of_mem _ hx))
    unfold Prt.dt namesDt blkDt
    exact lay_tup (lay_cons (lay_str (nm_ok h1)) (lay_cons (lay_tup (lay_names h2)) (lay_cons (lay_tup (blk_lay _ h3)) lay_nil)))
end OS

namespace OS
open PySem PySem.Spec PyProof.Rows L2
theorem gwd_ge : ∀ m : Nat, 25 ≤ gwd m
  | 0 => Nat.le_refl _
  | m + 1 => by
    have := gwd_ge m
    show 25 ≤ 20 + 6 * gwd m
    omega
section
variable {P : Program} {w : World} {K : PySem.W.Frag} {mg : Str → Option Value} {base : Heap}
theorem ok_law_statement {f : Addr} {fd : FuncData} (F : Fun K "_law_statement" "_law_statement" s__law_statement f fd) (T : Txt K mg) (n : Nat) {f__law_take : Addr} {d__law_take : FuncData} (c__law_take : Cal P w K mg base 1 "_law_take" ["tape", "many"] spTake f__law_take d__law_take) {f__law_two : Addr} {d__law_two : FuncData} (c__law_two : Cal P w K mg base 2 "_law_two" ["tape", "ends"] spTwo f__law_two d__law_two) {f__law_value : Addr} {d__law_value : FuncData} (c__law_value : Cal P w K mg base 6 "_law_value" ["tape", "depth"] (spVal K 3) f__law_value d__law_value) {f__law_block : Addr} {d__law_block : FuncData} (c__law_block : Cal P w K mg base (8+2*n+1) "_law_block" ["tape", "ends", "parts", "depth", "most"] (spBlk K n) f__law_block d__law_block) : FnOk P w K mg base CX0 (8+2*n+2) f fd ["tape", "ends", "parts", "depth"] (spStm K (n+1)) := by
  refine F.ok sc__law_statement (fun vs H Q E h => ?_) (fun cdv A outer s H vs Q E hr h => ?_)
  · obtain ⟨d, c, pe, pl, es, ps, m, rfl, _⟩ := h
    rfl
  · obtain ⟨d, c, pe, pl, es, ps, m, rfl, hm, hm1, S, k⟩ := h
    refine ⟨_, (Evl.pss_cut (ps_set (i := 4) sc__law_statement.nd rfl (.inl rfl) (pe_ifExp (pt_cmpR op_gt (pv 3) pe_int (nomark _)) (pe_call c__law_take.G (hr.mono (by omega)) (by rfl) c__law_take.m c__law_take.k c__law_take.b .nil pass0 (pa_cons (pv 0) (pa_cons pe_int pa_nil))) (pe_call c__law_take.G (hr.mono (by omega)) (by rfl) c__law_take.m c__law_take.k c__law_take.b .nil pass0 (pa_cons (pv 0) (pa_cons pe_int pa_nil)))))
      (pss_cons (ps_set (i := 5) sc__law_statement.nd rfl (.inl rfl) (pe_ix ix_list (pe_lst (pa_cons pe_str (pa_cons pe_str (pa_cons pe_str pa_nil)))) (pe_call c__law_take.G (hr.mono (by omega)) (by rfl) c__law_take.m c__law_take.k c__law_take.b .nil pass0 (pa_cons (pv 0) (pa_cons pe_int pa_nil))) (fun _ _ => rfl)))
      (pss_cons (ps_set (i := 6) sc__law_statement.nd rfl (.inl rfl) (pe_ix ix_tup (pv 1) (pe_call c__law_take.G (hr.mono (by omega)) (by rfl) c__law_take.m c__law_take.k c__law_take.b .nil pass0 (pa_cons (pv 0) (pa_cons (pe_callB call_len_seq (by rfl) T.len PySem.boot_len (pa_cons (pv 1) pa_nil)) pa_nil))) (fun _ _ => rfl)))
      (Evl.pss_cut (ps_if (PW.pt (pw_and (pt_cmpR op_lt (pv 4) pe_int (nomark _)) (pw_and1 (pt_cmpR op_gt (pe_callB call_len_seq (by rfl) T.len PySem.boot_len (pa_cons (pv 1) pa_nil)) pe_int (nomark _))))) (pss_cons (ps_asg (pe_call c__law_two.G (hr.mono (by omega)) (by rfl) c__law_two.m c__law_two.k c__law_two.b .nil pass0 (pa_cons (pv 0) (pa_cons (pv 1) pa_nil))) (pg_tup (by rfl) (pgs_cons (pg_name (i := 7) sc__law_statement.nd rfl (.inl rfl)) (pgs_cons (pg_name (i := 8) sc__law_statement.nd rfl (.inl rfl)) pgs_nil))))
      (pss_cons (ps_set (i := 9) sc__law_statement.nd rfl (.inl rfl) (pe_ix ix_list (pe_lst (pa_cons pe_str (pa_cons pe_str (pa_cons pe_str pa_nil)))) (pe_call c__law_take.G (hr.mono (by omega)) (by rfl) c__law_take.m c__law_take.k c__law_take.b .nil pass0 (pa_cons (pv 0) (pa_cons pe_int pa_nil))) (fun _ _ => rfl)))
      (pss_one (ps_ret (pe_tup (pa_cons pe_str (pa_cons (pv 7) (pa_cons (pv 8) (pa_cons (pv 9) (pa_cons (pe_call c__law_value.G (hr.mono (by omega)) (by rfl) c__law_value.m c__law_value.k c__law_value.b .nil pass0 (pa_cons (pv 0) (pa_cons pe_int pa_nil))) (pa_cons (pv 5) pa_nil))))))))))) pss_nil)
      (pss_cons (ps_if (PW.pt (pw_or (pt_cmpR op_eq (pv 4) pe_int (nomark _)) (pw_or1 (pt_cmpR op_lt (pv 4) pe_int (nomark _))))) (pss_one (ps_ret (pe_tup (pa_cons pe_str (pa_cons (pv 6) (pa_cons (pv 5) (pa_cons (pe_call c__law_value.G (hr.mono (by omega)) (by rfl) c__law_value.m c__law_value.k c__law_value.b .nil pass0 (pa_cons (pv 0) (pa_cons pe_int pa_nil))) pa_nil))))))) pss_nil)
      (pss_cons (ps_if (pt_cmpR op_eq (pv 4) pe_int (nomark _)) (pss_one (ps_ret (pe_tup (pa_cons pe_str (pa_cons (pv 6) (pa_cons (pv 5) pa_nil)))))) pss_nil)
      (pss_cons (ps_if (pt_cmpR op_eq (pv 4) pe_int (nomark _)) (pss_cons (ps_setLc (i := 11) (own := [("part", 10)]) (g := gName 10) (by rfl) sc__law_statement.nd rfl rfl (sw_true rfl rfl rfl (by decide +kernel)) (pi_list (pv 2)) (blkOk_by (N := ["tape", "ends", "parts", "depth", "choice", "variable", "end", "sender", "receiver", "label", "part", "fitting", "chosen", "k", "rest", "yes", "name"]) (sc := defScope s__law_statement) (by decide +kernel)) (fun _ _ _ _ _ => pg_name (i := 10) sc__law_statement.nd rfl (Or.inl rfl)) (fun _ _ _ _ _ => (pts_one (pt_cmpR op_le (pe_callB (show CallR _ (.builtin "len") (fun xs H Q => ∃ p ys, xs = [.ref p] ∧ (SqL K H p ys ∨ SqT K H p ys) ∧ Q (.int ys.length) H) from call_len_seq) (by rfl) T.len PySem.boot_len (pa_cons (pe_ix (show IxR _ (rIxT K) from ix_tup) (pv 10) pe_int (fun _ _ => rfl)) pa_nil)) (pe_callB (show CallR _ (.builtin "len") (fun xs H Q => ∃ p ys, xs = [.ref p] ∧ (SqL K H p ys ∨ SqT K H p ys) ∧ Q (.int ys.length) H) from call_len_seq) (by rfl) T.len PySem.boot_len (pa_cons (pv 1) pa_nil)) (nomark _)))) (fun _ _ _ _ _ => (pv 10)))
      (pss_cons (ps_if (pt_cmpR (op_eqN hr.units) (pv 11) (pe_lst pa_nil) (nomark _)) (pss_one (ps_ret (pe_tup (pa_cons pe_str (pa_cons (pv 6) (pa_cons (pv 5) pa_nil)))))) pss_nil)
      (pss_cons (ps_set (i := 10) sc__law_statement.nd rfl (.inl rfl) (pe_ix ix_list (pv 11) (pe_call c__law_take.G (hr.mono (by omega)) (by rfl) c__law_take.m c__law_take.k c__law_take.b .nil pass0 (pa_cons (pv 0) (pa_cons (pe_callB call_len_seq (by rfl) T.len PySem.boot_len (pa_cons (pv 11) pa_nil)) pa_nil))) (fun _ _ => rfl)))
      (pss_cons (ps_set (i := 12) sc__law_statement.nd rfl (.inr rfl) (pe_lst pa_nil))
      (pss_cons (ps_for PassesOwn.never rfl (pi_range1 (by rfl) T.range (pa_cons (pe_callB call_len_seq (by rfl) T.len PySem.boot_len (pa_cons (pe_ix ix_tup (pv 10) pe_int (fun _ _ => rfl)) pa_nil)) pa_nil)) (pg_name (i := 13) sc__law_statement.nd rfl (.inl rfl)) (pss_cons (ps_setLc (i := 14) (own := [("name", 16)]) (g := gName 16) (by rfl) sc__law_statement.nd rfl rfl (sw_true rfl rfl rfl (by decide +kernel)) (pi_tup (pv 1)) (blkOk_by (N := ["tape", "ends", "parts", "depth", "choice", "variable", "end", "sender", "receiver", "label", "part", "fitting", "chosen", "k", "rest", "yes", "name"]) (sc := defScope s__law_statement) (by decide +kernel)) (fun _ _ _ _ _ => pg_name (i := 16) sc__law_statement.nd rfl (Or.inl rfl)) (fun _ _ _ _ _ => (pts_one (pt_cmpR (show OpR _ (compareOp CmpOp.NotIn) (rIn K true) from op_notIn_seq) (pv 16) (pv 12) (by rfl)))) (fun _ _ _ _ _ => (pv 16)))
      (pss_one (ps_expr (pe_bm PySem.F.plainAttrs_list PySem.F.slot_list_append PySem.F.type_list_append mt_append (pv 12) (pa_cons (pe_ix ix_list (pv 14) (pe_call c__law_take.G (hr.mono (by omega)) (by rfl) c__law_take.m c__law_take.k c__law_take.b .nil pass0 (pa_cons (pv 0) (pa_cons (pe_callB call_len_seq (by rfl) T.len PySem.boot_len (pa_cons (pv 14) pa_nil)) pa_nil))) (fun _ _ => rfl)) pa_nil))))))
      (pss_one (ps_ret (pe_tup (pa_cons pe_str (pa_cons (pe_ix ix_tup (pv 10) pe_int (fun _ _ => rfl)) (pa_cons (pe_callTy call_tuple_of (by rfl) T.tuple (by decide +kernel) (pa_cons (pv 12) pa_nil)) pa_nil))))))))))) pss_nil)
      (pss_cons (ps_if (pt_cmpR op_lt (pv 4) pe_int (nomark _)) (pss_cons (ps_set (i := 15) sc__law_statement.nd rfl (.inl rfl) (pe_call c__law_block.G (hr.mono (by omega)) (by rfl) c__law_block.m c__law_block.k c__law_block.b .nil pass0 (pa_cons (pv 0) (pa_cons (pv 1) (pa_cons (pv 2) (pa_cons (pe_op op_sub (pv 3) pe_int) (pa_cons pe_int pa_nil)))))))
      (pss_one (ps_ret (pe_tup (pa_cons pe_str (pa_cons (pv 6) (pa_cons (pe_call c__law_value.G (hr.mono (by omega)) (by rfl) c__law_value.m c__law_value.k c__law_value.b .nil pass0 (pa_cons (pv 0) (pa_cons pe_int pa_nil))) (pa_cons (pv 15) (pa_cons (pe_call c__law_block.G (hr.mono (by omega)) (by rfl) c__law_block.m c__law_block.k c__law_block.b .nil pass0 (pa_cons (pv 0) (pa_cons (pv 1) (pa_cons (pv 2) (pa_cons (pe_op op_sub (pv 3) pe_int) (pa_cons pe_int pa_nil)))))) pa_nil))))))))) pss_nil)
      (pss_one (ps_ret (pe_tup (pa_cons pe_str (pa_cons (pv 6) (pa_cons (pe_call c__law_value.G (hr.mono (by omega)) (by rfl) c__law_value.m c__law_value.k c__law_value.b .nil pass0 (pa_cons (pv 0) (pa_cons pe_int pa_nil))) (pa_cons (pe_call c__law_block.G (hr.mono (by omega)) (by rfl) c__law_block.m c__law_block.k c__law_block.b .nil pass0 (pa_cons (pv 0) (pa_cons (pv 1) (pa_cons (pv 2) (pa_cons (pe_op op_sub (pv 3) pe_int) (pa_cons pe_int pa_nil)))))) pa_nil))))))))))))))), ?_⟩
    refine ⟨fun σ H1 => ∃ r : Int, σ = [some (.ref d), some (.ref pe), some (.ref pl), some (.int m), some (.int r), none, none, none, none, none, none, none, none, none, none, none, none] ∧ 0 ≤ r ∧ (m = 0 → r < 8) ∧ Src K H1 d c pe pl es ps ∧ Kept d H H1, ?_, ?_⟩
    · refine ⟨_, rfl, _, _, rfl, rfl, _, rfl, ?_⟩
      refine ite2 (fun c1 => ?_) (fun c1 => ?_)
      · have c1 : (0 : Int) < m := of_decide_eq_true c1
        refine ⟨_, rfl, d, c, 12, rfl, S.T, by decide, by decide, fun r H1 r0 r1 T1 O1 => ?_⟩
        exact ⟨r, rfl, r0, fun q => by omega, S.next T1 O1.kept, O1.kept⟩
      · refine ⟨_, rfl, d, c, 8, rfl, S.T, by decide, by decide, fun r H1 r0 r1 T1 O1 => ?_⟩
        exact ⟨r, rfl, r0, fun q => r1, S.next T1 O1.kept, O1.kept⟩
    · rintro σ H1 ⟨r, rfl, r0, rm, S1, K1⟩
      refine ⟨by show 3 ≤ sizeLine; decide, fun l hl => ?_⟩
      refine ⟨_, rfl, d, c, 3, rfl, S1.T.keep (same_upd hl), by decide, by decide, fun q H2 q0 q1 T2 O2 => ?_⟩
      obtain ⟨x, hx, e⟩ := pick_of (xs := [.str "n", .str "m", .str "k"]) q0 q1
      refine ⟨l, _, _, _, rfl, rfl, SqL.of (by rw [O2 l (S1.T.ne hl).1]; exact upd_same), e, ?_⟩
      obtain ⟨vr, rfl, hvr⟩ : ∃ sg : Str, x = .str sg ∧ Nm sg := by
        simp only [List.mem_cons, List.not_mem_nil, or_false] at hx
        rcases hx with rfl | rfl | rfl
        · exact ⟨_, rfl, by unfold Nm; simp⟩
        · exact ⟨_, rfl, by unfold Nm; simp⟩
        · exact ⟨_, rfl, by unfold Nm; simp⟩
      have K02 := (Kept.of (d := d) (same_upd (o := .lst [.str "n", .str "m", .str "k"]) hl)).trans O2.kept
      have S2 := S1.next T2 K02
      have K2 := K1.trans K02
      refine ⟨_, rfl, _, rfl, _, rfl, pe, _, rfl, .inr (SqT.of S2.he), ?_⟩
      rw [List.length_map]
      have b1 := S2.e1
      have b2 := S2.e2
      refine ⟨d, c, (es.length : Int), rfl, S2.T, by omega, by omega, fun q3 H3 c0 c1 T3 O3 => ?_⟩
      have S3 := S2.next T3 O3.kept
      have K3 := K2.trans O3.kept
      obtain ⟨en, hen, een⟩ := str_at c0 c1
      have hn := S3.eo _ hen
      refine ⟨pe, _, _, _, rfl, rfl, SqT.of S3.he, een, ?_⟩
      -- choice < 5 and len(ends) > 1
      refine ⟨fun σ H4 => σ = [some (.ref d), some (.ref pe), some (.ref pl), some (.int m), some (.int r), some (.str vr), some (.str en), none, none, none, none, none, none, none, none, none, none] ∧ ¬ (r < 5 ∧ 1 < es.length) ∧ H4 = H3, ?_, ?_⟩
      · refine ⟨_, rfl, _, _, rfl, rfl, _, rfl, ?_⟩
        refine ite2 (fun c1 => ?_) (fun c1 => ?_)
        · refine ⟨_, rfl, pe, _, rfl, .inr (SqT.of S3.he), ?_⟩
          rw [List.length_map]
          refine ⟨_, _, rfl, rfl, _, rfl, ?_⟩
          refine ite2 (fun c2 => ?_) (fun c2 => ?_)
          · have c2 : (1 : Int) < (es.length : Int) := of_decide_eq_true c2
            refine ⟨_, rfl, _, rfl, d, c, pe, es, rfl, S3.T, S3.he, by omega, by omega, fun a b p H4 ha hb hp T4 K4 => ?_⟩
            have S4 := S3.next T4 K4
            refine ⟨p, _, rfl, SqT.of hp, rfl, _, _, rfl, _, _, rfl, rfl, ?_⟩
            refine ⟨by show 3 ≤ sizeLine; decide, fun l5 hl5 => ?_⟩
            refine ⟨_, rfl, d, c, 3, rfl, S4.T.keep (same_upd hl5), by decide, by decide, fun q6 H6 u0 u1 T6 O6 => ?_⟩
            obtain ⟨x, hx, e⟩ := pick_of (xs := [.str "go", .str "no", .str "ask"]) u0 u1
            refine ⟨l5, _, _, _, rfl, rfl, SqL.of (by rw [O6 l5 (S4.T.ne hl5).1]; exact upd_same), e, ?_⟩
            obtain ⟨lb, rfl, hlb⟩ : ∃ sg : Str, x = .str sg ∧ Nm sg := by
              simp only [List.mem_cons, List.not_mem_nil, or_false] at hx
              rcases hx with rfl | rfl | rfl
              · exact ⟨_, rfl, by unfold Nm; simp⟩
              · exact ⟨_, rfl, by unfold Nm; simp⟩
              · exact ⟨_, rfl, by unfold Nm; simp⟩
            have K46 := (Kept.of (d := d) (same_upd (o := .lst [.str "go", .str "no", .str "ask"]) hl5)).trans O6.kept
            have S6 := S4.next T6 K46
            refine ⟨_, rfl, _, rfl, _, rfl, _, rfl, d, c, 1, rfl, by decide, by decide, S6.T, fun v7 x7 H7 o7 d7 a7 T7 K7 => ?_⟩
            refine ⟨_, rfl, by show 6 ≤ sizeLine; decide, fun t ht => ?_⟩
            refine k (.ref t) (.msg a b lb x7 vr) _ ⟨S3.eo _ ha, S3.eo _ hb, hlb, ⟨o7, by omega⟩, hvr⟩ ?_ ?_ (T7.keep (same_upd ht)) (((((K3.trans K4).trans K46).trans K7).trans (Kept.of (same_upd ht))))
            · refine ⟨?_, Nat.zero_le _⟩
              have e1 := Nat.le_trans (wd_le x7) (fwd_mono d7)
              have e2 := gwd_ge m
              have e3 : fwd 1 = 9 := rfl
              show 9 + x7.wd ≤ gwd m
              omega
            · unfold Stm.dt
              rw [At]
              refine ⟨t, _, rfl, upd_same, ?_⟩
              simp only [AtL]
              exact ⟨_, _, rfl, by unfold At; rfl, _, _, rfl, by unfold At; rfl, _, _, rfl, by unfold At; rfl, _, _, rfl, by unfold At; rfl, _, _, rfl, At.keep (same_upd ht) a7, _, _, rfl, by unfold At; rfl, rfl⟩
          · have c2 : ¬ (1 : Int) < (es.length : Int) := fun q => c2 (decide_eq_true q)
            exact ⟨rfl, fun q => by omega, rfl⟩
        · have c1 : ¬ r < 5 := fun q => c1 (decide_eq_true q)
          exact ⟨rfl, fun q => c1 q.1, rfl⟩
      · rintro σ H4 ⟨rfl, nb, rfl⟩
        refine ⟨_, rfl, rfl, _, rfl, ?_⟩
        rcases (by omega : r = 5 ∨ r < 5 ∨ 5 < r) with c5 | c5 | c5
        · rw [decide_eq_true (show V.int r = V.int 5 by rw [c5])]
          refine iteT (iteT ?_)
          refine ⟨_, rfl, _, rfl, _, rfl, d, c, 2, rfl, by decide, by decide, S3.T, fun v7 x7 H7 o7 d7 a7 T7 K7 => ?_⟩
          refine ⟨by show 4 ≤ sizeLine; decide, fun t ht => ?_⟩
          refine k (.ref t) (.set en vr x7) _ ⟨hn, hvr, o7, d7⟩ ?_ ?_ (T7.keep (same_upd ht)) ((K3.trans K7).trans (Kept.of (same_upd ht)))
          · refine ⟨?_, Nat.zero_le _⟩
            have e1 := Nat.le_trans (wd_le x7) (fwd_mono d7)
            have e2 := gwd_ge m
            have e3 : fwd 2 = 21 := rfl
            show 4 + x7.wd ≤ gwd m
            omega
          · unfold Stm.dt
            rw [At]
            refine ⟨t, _, rfl, upd_same, ?_⟩
            simp only [AtL]
            exact ⟨_, _, rfl, by unfold At; rfl, _, _, rfl, by unfold At; rfl, _, _, rfl, by unfold At; rfl, _, _, rfl, At.keep (same_upd ht) a7, rfl⟩
        · rw [decide_eq_false (show ¬ V.int r = V.int 5 from fun q => by injection q; omega)]
          refine iteF ⟨_, rfl, _, _, rfl, rfl, _, rfl, ?_⟩
          rw [decide_eq_true c5]
          refine iteT ?_
          refine ⟨_, rfl, _, rfl, _, rfl, d, c, 2, rfl, by decide, by decide, S3.T, fun v7 x7 H7 o7 d7 a7 T7 K7 => ?_⟩
          refine ⟨by show 4 ≤ sizeLine; decide, fun t ht => ?_⟩
          refine k (.ref t) (.set en vr x7) _ ⟨hn, hvr, o7, d7⟩ ?_ ?_ (T7.keep (same_upd ht)) ((K3.trans K7).trans (Kept.of (same_upd ht)))
          · refine ⟨?_, Nat.zero_le _⟩
            have e1 := Nat.le_trans (wd_le x7) (fwd_mono d7)
            have e2 := gwd_ge m
            have e3 : fwd 2 = 21 := rfl
            show 4 + x7.wd ≤ gwd m
            omega
          · unfold Stm.dt
            rw [At]
            refine ⟨t, _, rfl, upd_same, ?_⟩
            simp only [AtL]
            exact ⟨_, _, rfl, by unfold At; rfl, _, _, rfl, by unfold At; rfl, _, _, rfl, by unfold At; rfl, _, _, rfl, At.keep (same_upd ht) a7, rfl⟩
        rw [decide_eq_false (show ¬ V.int r = V.int 5 from fun q => by injection q; omega)]
        refine iteF ⟨_, rfl, _, _, rfl, rfl, _, rfl, ?_⟩
        rw [decide_eq_false (show ¬ r < 5 by omega)]
        refine iteF ⟨_, rfl, rfl, _, rfl, ?_⟩
        by_cases c6 : r = 6
        · rw [decide_eq_true (show V.int r = V.int 6 by rw [c6])]
          refine iteT ?_
          refine ⟨_, rfl, _, rfl, by show 3 ≤ sizeLine; decide, fun t ht => ?_⟩
          refine k (.ref t) (.ask en vr) _ ⟨hn, hvr⟩ ⟨Nat.le_trans (by decide : 3 ≤ 25) (gwd_ge m), Nat.zero_le _⟩ ?_ (S3.T.keep (same_upd ht)) (K3.trans (Kept.of (same_upd ht)))
          unfold Stm.dt
          rw [At]
          refine ⟨t, _, rfl, upd_same, ?_⟩
          simp only [AtL]
          exact ⟨_, _, rfl, by unfold At; rfl, _, _, rfl, by unfold At; rfl, _, _, rfl, by unfold At; rfl, rfl⟩
        rw [decide_eq_false (show ¬ V.int r = V.int 6 from fun q => by injection q; omega)]
        refine iteF ⟨_, rfl, rfl, _, rfl, ?_⟩
        by_cases c7 : r = 7
        · rw [decide_eq_true (show V.int r = V.int 7 by rw [c7])]
          refine iteT ?_
          obtain ⟨pv, hp1, hp2⟩ := id S3.pl
          refine ⟨_, rfl, pl, rfl, ⟨_, SqL.of hp1⟩, fun F nF => ?_⟩
          have Fp : F ≠ pl := (ne_of_none hp1 nF).symm
          have Fd := S3.T.ne nF
          have lps := hp2.length
          rw [List.length_map] at lps
          have hpn := S3.pn
          refine lc_list (K := K) (a := pl) (xs := pv) (fun i H' => ∃ (fs : List Prt) (vs : List V), H' F = some (.lst vs) ∧ AtL K H' (fs.map Prt.dt) vs ∧ (∀ p ∈ fs, p ∈ ps ∧ p.params.length ≤ es.length) ∧ fs.length ≤ i ∧ Src K H' d c pe pl es ps ∧ Kept d H4 H' ∧ H' pl = some (.lst pv) ∧ AtL K H' (ps.map Prt.dt) pv)
            ⟨[], [], upd_same, by simp only [List.map_nil, AtL], fun p h => (by cases h), Nat.zero_le _, S3.next (S3.T.keep (same_upd nF)) (Kept.of (same_upd nF)), Kept.of (same_upd nF), same_upd nF _ _ hp1, AtL.keep (same_upd nF) hp2⟩ (fun i H' _ ⟨_, _, _, _, _, _, _, _, h, _⟩ => SqL.of h) ?_ ?_
          · rintro i x H5 hi ⟨fs, vs, hF, haf, hff, hfl, S5, K5, hp5, hq5⟩
            have hi2 : i < pv.length := (List.getElem?_eq_some_iff.mp hi).1
            obtain ⟨dd, ed, hx⟩ := AtL.inv hq5 hi
            rw [List.getElem?_map] at ed
            obtain ⟨pp, epp, rfl⟩ : ∃ pp, ps[i]? = some pp ∧ dd = pp.dt := by
              cases e : ps[i]? with
              | none => rw [e] at ed; cases ed
              | some q => rw [e] at ed; exact ⟨q, rfl, (Option.some.inj ed).symm⟩
            have hpp : pp ∈ ps := List.mem_of_getElem? epp
            obtain ⟨ap, qp, up, rfl, hap, hqp, _⟩ := prt_inv hx
            refine ⟨rfl, ?_⟩
            refine ⟨_, rfl, ap, _, _, _, rfl, rfl, SqT.of hap, atI_nat (j := 1) rfl, qp, _, rfl, .inr (SqT.of hqp), ?_⟩
            refine ⟨_, rfl, pe, _, rfl, .inr (SqT.of S5.he), ?_⟩
            rw [List.length_map, List.length_map]
            refine ⟨_, _, rfl, rfl, _, rfl, ?_⟩
            refine ite2 (fun c9 => ?_) (fun c9 => ?_)
            · have c9 : (pp.params.length : Int) ≤ (es.length : Int) := of_decide_eq_true c9
              refine ⟨_, rfl, vs, hF, ?_, fs ++ [pp], vs ++ [.ref ap], upd_same, ?_, ?_, ?_, S5.put hF Fd Fp, K5.upd nF, ?_, ?_⟩
              · have := haf.length
                rw [List.length_map] at this
                exact sz6' (by omega)
              · rw [List.map_append]
                exact AtL.snoc (At.offL hF (prt_noL pp) hx) (AtL.offL hF (prts_noL fs) haf)
              · intro p hp
                rcases List.mem_append.mp hp with hp | hp
                · exact hff p hp
                · rw [List.mem_singleton.mp hp]
                  exact ⟨hpp, by omega⟩
              · rw [List.length_append]
                show fs.length + 1 ≤ i + 1
                omega
              · rw [upd_ne Fp.symm]
                exact hp5
              · exact AtL.offL hF (prts_noL ps) hq5
            · exact ⟨fs, vs, hF, haf, hff, by omega, S5, K5, hp5, hq5⟩
          · rintro H5 ⟨fs, vs, hF, haf, hff, hfl, S5, K5, hp5, hq5⟩
            have lfs := haf.length
            rw [List.length_map] at lfs
            refine ⟨_, rfl, Nat.zero_le _, fun Z nZ => ?_⟩
            refine ⟨F, Z, vs, fs.map Prt.dt, rfl, rfl, SqL.of (same_upd nZ _ _ hF), AtL.keep (same_upd nZ) haf, prts_lay fun p hp => S3.po p (hff p hp).1, SqL.of upd_same, _, rfl, ?_⟩
            have S5 := S5.next (S5.T.keep (same_upd (o := .lst []) nZ)) (Kept.of (same_upd nZ))
            have K5 : Kept d H _ := (K3.trans K5).trans (Kept.of (same_upd (o := .lst []) nZ))
            have hF := same_upd (o := .lst []) nZ _ _ hF
            have haf := AtL.keep (same_upd (o := .lst []) nZ) haf
            refine ite2 (fun c9 => ?_) (fun c9 => ?_)
            · refine ⟨_, rfl, _, rfl, by show 3 ≤ sizeLine; decide, fun t ht => ?_⟩
              refine k (.ref t) (.ask en vr) _ ⟨hn, hvr⟩ ⟨Nat.le_trans (by decide : 3 ≤ 25) (gwd_ge m), Nat.zero_le _⟩ ?_ (S5.T.keep (same_upd ht)) (K5.trans (Kept.of (same_upd ht)))
              unfold Stm.dt
              rw [At]
              refine ⟨t, _, rfl, upd_same, ?_⟩
              simp only [AtL]
              exact ⟨_, _, rfl, by unfold At; rfl, _, _, rfl, by unfold At; rfl, _, _, rfl, by unfold At; rfl, rfl⟩
            · have hf0 : 0 < fs.length := by
                cases fs with
                | nil => exact absurd rfl c9
                | cons _ _ => exact Nat.zero_lt_succ _
              refine ⟨_, rfl, _, rfl, _, rfl, F, _, rfl, .inl (SqL.of hF), ?_⟩
              rw [lfs]
              refine ⟨d, c, (fs.length : Int), rfl, S5.T, by omega, by omega, fun r6 H6 u0 u1 T6 O6 => ?_⟩
              obtain ⟨j, rfl⟩ := Int.eq_ofNat_of_zero_le u0
              have hj : j < fs.length := by omega
              obtain ⟨vp, evp, hvp⟩ := AtL.get (i := j) (d := fs[j].dt) haf (by rw [List.getElem?_map, List.getElem?_eq_getElem hj]; rfl)
              have w6 := S5.T.rws O6.kept
              have S6 := S5.next T6 O6.kept
              have K6 := K5.trans O6.kept
              refine ⟨F, _, _, _, rfl, rfl, SqL.of (w6.2 _ _ hF), atI_nat evp, ?_⟩
              obtain ⟨hps, hle⟩ := hff fs[j] (List.getElem_mem hj)
              have hpo := S6.po _ hps
              generalize fs[j] = pp at hvp hps hle hpo
              obtain ⟨ap, qp, up, rfl, hap, hqp, _⟩ := prt_inv (At.rws w6 hvp)
              refine ⟨Nat.zero_le _, fun Cc nC => ?_⟩
              have hap := same_upd (o := .lst []) nC _ _ hap
              have hqp := same_upd (o := .lst []) nC _ _ hqp
              obtain ⟨pv6, hp61, _⟩ := id S6.pl
              have Cp : Cc ≠ pl := (ne_of_none hp61 nC).symm
              have Cd := S6.T.ne nC
              have nC0 : H Cc = none := by
                cases e : H Cc with
                | none => rfl
                | some o => rw [K6 Cc o Cd.1 e] at nC; cases nC
              refine ⟨_, rfl, ap, _, _, _, rfl, rfl, SqT.of hap, atI_nat (j := 1) rfl, qp, _, rfl, .inr (SqT.of hqp), ?_⟩
              rw [List.length_map]
              have b4 := hpo.2.2.2.1
              refine ⟨_, rfl, by omega, by omega, ?_⟩
              refine for_range (n := pp.params.length) (fun i σ H' => ∃ (cs : List Str) (y13 y14 : Option V), σ = [some (.ref d), some (.ref pe), some (.ref pl), some (.int m), some (.int r), some (.str vr), some (.str en), none, none, none, some (.ref ap), some (.ref F), some (.ref Cc), y13, y14, none, none] ∧
                H' Cc = some (.lst (cs.map V.str)) ∧ cs.length = i ∧ cs.Nodup ∧ (∀ e ∈ cs, e ∈ es) ∧ Src K H' d c pe pl es ps ∧ Kept d H H' ∧ H' ap = some (.tup [.str pp.name, .ref qp, up]))
                ⟨[], none, none, rfl, upd_same, rfl, List.nodup_nil, fun e h => (by cases h), S6.next (S6.T.keep (same_upd nC)) (Kept.of (same_upd nC)), K6.trans (Kept.of (same_upd nC)), hap⟩ ?_ ?_
              · rintro i σ H7 hi ⟨cs, y13, y14, rfl, hC, hcl, hcn, hce, S7, K7, hap7⟩
                refine ⟨_, rfl, pe, rfl, ⟨_, SqT.of S7.he⟩, fun R nR => ?_⟩
                have Rc : R ≠ Cc := (ne_of_none hC nR).symm
                obtain ⟨pv7, hp71, _⟩ := id S7.pl
                have Rp : R ≠ pl := (ne_of_none hp71 nR).symm
                have Rd := S7.T.ne nR
                have Ra : ap ≠ R := ne_of_none hap7 nR
                have nR0 : H R = none := by
                  cases e : H R with
                  | none => rfl
                  | some o => rw [K7 R o Rd.1 e] at nR; cases nR
                refine lc_tup (K := K) (a := pe) (xs := es.map V.str) (fun j H' => ∃ rs : List Str, H' R = some (.lst (rs.map V.str)) ∧ rs.length ≤ j ∧ (∀ e ∈ rs, e ∈ es ∧ e ∉ cs) ∧ (∀ e ∈ es.take j, e ∈ cs ∨ e ∈ rs) ∧ H' Cc = some (.lst (cs.map V.str)) ∧ Src K H' d c pe pl es ps ∧ Kept d H H' ∧ H' ap = some (.tup [.str pp.name, .ref qp, up]))
                  ⟨[], upd_same, Nat.zero_le _, fun e h => (by cases h), fun e h => (by simp at h), same_upd nR _ _ hC, S7.next (S7.T.keep (same_upd nR)) (Kept.of (same_upd nR)), K7.trans (Kept.of (same_upd nR)), same_upd nR _ _ hap7⟩ (fun j H' _ ⟨_, _, _, _, _, _, S8, _, _⟩ => SqT.of S8.he) ?_ ?_
                · rintro j x H8 hj ⟨rs, hR, hrl, hre, hrt, hC8, S8, K8, hap8⟩
                  rw [List.getElem?_map] at hj
                  obtain ⟨nm, enm, rfl⟩ : ∃ q, es[j]? = some q ∧ x = .str q := by
                    cases e : es[j]? with
                    | none => rw [e] at hj; cases hj
                    | some q => rw [e] at hj; exact ⟨q, rfl, (Option.some.inj hj).symm⟩
                  have hnm : nm ∈ es := List.mem_of_getElem? enm
                  have etk : es.take (j + 1) = es.take j ++ [nm] := by
                    rw [List.take_add_one, enm]
                    rfl
                  have hjl : j < es.length := (List.getElem?_eq_some_iff.mp enm).1
                  refine ⟨rfl, ?_⟩
                  refine ⟨_, rfl, _, rfl, Cc, _, rfl, .inl (SqL.of hC8), rfl, by rw [List.all_eq_true]; intro y hy; obtain ⟨q, _, rfl⟩ := List.mem_map.mp hy; rfl, ?_⟩
                  rw [inV_str]
                  refine ⟨_, rfl, ?_⟩
                  by_cases cin : nm ∈ cs
                  · rw [decide_eq_true cin]
                    refine iteF ⟨rs, hR, by omega, hre, fun e he => ?_, hC8, S8, K8, hap8⟩
                    rw [etk] at he
                    rcases List.mem_append.mp he with he | he
                    · exact hrt e he
                    · rw [List.mem_singleton.mp he]
                      exact .inl cin
                  · rw [decide_eq_false cin]
                    refine iteT ⟨_, rfl, _, hR, ?_, rs ++ [nm], ?_, ?_, ?_, ?_, ?_, S8.put hR Rd Rp, K8.upd nR0, ?_⟩
                    · rw [List.length_map]
                      exact sz6' (by omega)
                    · rw [upd_same, List.map_append]
                      rfl
                    · rw [List.length_append]
                      show rs.length + 1 ≤ j + 1
                      omega
                    · intro e he
                      rcases List.mem_append.mp he with he | he
                      · exact hre e he
                      · rw [List.mem_singleton.mp he]
                        exact ⟨hnm, cin⟩
                    · intro e he
                      rw [etk] at he
                      rcases List.mem_append.mp he with he | he
                      · rcases hrt e he with q | q
                        · exact .inl q
                        · exact .inr (List.mem_append_left _ q)
                      · exact .inr (List.mem_append_right _ he)
                    · rw [upd_ne Rc.symm]
                      exact hC8
                    · rw [upd_ne Ra]
                      exact hap8
                · rintro H8 ⟨rs, hR, hrl, hre, hrt, hC8, S8, K8, hap8⟩
                  rw [List.length_map] at hrl
                  rw [List.length_map, List.take_length] at hrt
                  have hr0 : 0 < rs.length := by
                    cases rs with
                    | cons _ _ => exact Nat.zero_lt_succ _
                    | nil =>
                      have := nodup_len S8.en fun e he => (hrt e he).resolve_right (by simp)
                      omega
                  refine ⟨_, rfl, .inl ⟨rfl, _, SqL.of hC8⟩, ?_⟩
                  refine ⟨_, rfl, _, rfl, _, rfl, R, _, rfl, .inl (SqL.of hR), ?_⟩
                  rw [List.length_map]
                  refine ⟨d, c, (rs.length : Int), rfl, S8.T, by omega, by omega, fun r9 H9 v0 v1 T9 O9 => ?_⟩
                  have w9 := S8.T.rws O9.kept
                  have S9 := S8.next T9 O9.kept
                  obtain ⟨y, hy, ey⟩ := str_at v0 v1
                  have hC9 := w9.2 _ _ hC8
                  refine ⟨R, _, _, _, rfl, rfl, SqL.of (w9.2 _ _ hR), ey, Cc, _, _, rfl, rfl, hC9, ?_, cs ++ [y], _, _, rfl, ?_, ?_, ?_, ?_, S9.put hC9 Cd Cp, (K8.trans O9.kept).upd nC0, ?_⟩
                  · rw [List.length_map]
                    exact sz6' (by omega)
                  · rw [upd_same, List.map_append]
                    rfl
                  · rw [List.length_append, hcl]
                    rfl
                  · rw [List.nodup_append]
                    refine ⟨hcn, by simp, fun a ha b hb => ?_⟩
                    rw [List.mem_singleton.mp hb]
                    intro q
                    exact (hre y hy).2 (q ▸ ha)
                  · intro e he
                    rcases List.mem_append.mp he with he | he
                    · exact hce e he
                    · rw [List.mem_singleton.mp he]
                      exact (hre y hy).1
                  · rw [upd_ne (ne_of (w9.1 _ _ hap8) hC9 (by intro z; cases z))]
                    exact w9.1 _ _ hap8
              · rintro σ H7 ⟨cs, y13, y14, rfl, hC, hcl, hcn, hce, S7, K7, hap7⟩
                refine ⟨_, rfl, ap, _, _, _, rfl, rfl, SqT.of hap7, atI_nat (j := 0) rfl, _, rfl, Cc, _, rfl, .inl ⟨SqL.of hC, fun tc htc => ?_⟩⟩
                refine ⟨by show 3 ≤ sizeLine; decide, fun t ht => ?_⟩
                have s1 := same_upd (o := .tup (cs.map V.str)) htc
                refine k (.ref t) (.call pp.name cs) _ ⟨hpo.1, fun q => ?_, fun e he => S7.eo e (hce e he)⟩ ?_ ?_ ((S7.T.keep s1).keep (same_upd ht)) ((K7.trans (Kept.of s1)).trans (Kept.of (same_upd ht)))
                · rw [q] at hcl
                  exact hpo.2.1 (List.eq_nil_of_length_eq_zero hcl.symm)
                · refine ⟨?_, Nat.zero_le _⟩
                  have := gwd_ge m
                  show 4 + 2 * cs.length ≤ gwd m
                  omega
                · have an : At K (upd (upd H7 tc (.tup (cs.map V.str))) t (.tup [.str "call", .str pp.name, .ref tc])) (namesDt cs) (.ref tc) := At.keep (same_upd ht) (names_at upd_same)
                  unfold Stm.dt
                  rw [At]
                  refine ⟨t, _, rfl, upd_same, ?_⟩
                  simp only [AtL]
                  exact ⟨_, _, rfl, by unfold At; rfl, _, _, rfl, by unfold At; rfl, _, _, rfl, an, rfl⟩
        rw [decide_eq_false (show ¬ V.int r = V.int 7 from fun q => by injection q; omega)]
        have hm0 : 1 ≤ m := by
          cases m with
          | zero => have := rm rfl; omega
          | succ m => omega
        have em : ((m : Int) - 1) = ((m - 1 : Nat) : Int) := by omega
        have eg : gwd m = 20 + 6 * gwd (m - 1) := by
          cases m with
          | zero => omega
          | succ m => rfl
        refine iteF ⟨_, rfl, _, _, rfl, rfl, _, rfl, ?_⟩
        refine ite2 (fun c8 => ?_) (fun c8 => ?_)
        · have c8 : r < 11 := of_decide_eq_true c8
          refine ⟨_, rfl, _, rfl, _, rfl, _, rfl, _, _, rfl, rfl, d, c, pe, pl, es, ps, m - 1, 2, congrArg (fun i => [V.ref d, .ref pe, .ref pl, .int i, .int 2]) em, by omega, by omega, by omega, S3, fun v5 x5 H5 o5 w5 a5 T5 K5 => ?_⟩
          have S5 := S3.next T5 K5
          refine ⟨_, rfl, _, rfl, d, c, 1, rfl, by decide, by decide, T5, fun v6 x6 H6 o6 d6 a6 T6 K6 => ?_⟩
          have S6 := S5.next T6 K6
          refine ⟨_, rfl, _, rfl, _, rfl, _, rfl, _, rfl, _, _, rfl, rfl, d, c, pe, pl, es, ps, m - 1, 2, congrArg (fun i => [V.ref d, .ref pe, .ref pl, .int i, .int 2]) em, by omega, by omega, by omega, S6, fun v7 x7 H7 o7 w7 a7 T7 K7 => ?_⟩
          refine ⟨by show 5 ≤ sizeLine; decide, fun t ht => ?_⟩
          refine k (.ref t) (.ite en x6 x5 x7) _ ⟨hn, ⟨o6, by omega⟩, o5, o7⟩ ?_ ?_ (T7.keep (same_upd ht)) ((((K3.trans K5).trans K6).trans K7).trans (Kept.of (same_upd ht)))
          · have e1 := Nat.le_trans (wd_le x6) (fwd_mono d6)
            have e3 : fwd 1 = 9 := rfl
            have e4 := gwd_ge (m - 1)
            obtain ⟨u1, u2⟩ := w5
            obtain ⟨u3, u4⟩ := w7
            refine ⟨?_, by show max (blkNst x5) (blkNst x7) + 1 ≤ m; omega⟩
            show 4 + x6.wd + (2 + blkWd x5) + (2 + blkWd x7) ≤ gwd m
            omega
          · have a5' := At.keep (same_upd ht (o := .tup [.str "if", .str en, v6, v5, v7])) (At.rws (T6.rws K7) (At.rws (T5.rws K6) a5))
            have a6' := At.keep (same_upd ht (o := .tup [.str "if", .str en, v6, v5, v7])) (At.rws (T6.rws K7) a6)
            have a7' := At.keep (same_upd ht (o := .tup [.str "if", .str en, v6, v5, v7])) a7
            unfold blkDt at a5' a7'
            unfold Stm.dt
            rw [At]
            refine ⟨t, _, rfl, upd_same, ?_⟩
            simp only [AtL]
            exact ⟨_, _, rfl, by unfold At; rfl, _, _, rfl, by unfold At; rfl, _, _, rfl, a6', _, _, rfl, a5', _, _, rfl, a7', rfl⟩
        · refine ⟨_, rfl, _, rfl, d, c, 1, rfl, by decide, by decide, S3.T, fun v6 x6 H6 o6 d6 a6 T6 K6 => ?_⟩
          have S6 := S3.next T6 K6
          refine ⟨_, rfl, _, rfl, _, rfl, _, rfl, _, _, rfl, rfl, d, c, pe, pl, es, ps, m - 1, 3, congrArg (fun i => [V.ref d, .ref pe, .ref pl, .int i, .int 3]) em, by omega, by omega, by omega, S6, fun v7 x7 H7 o7 w7 a7 T7 K7 => ?_⟩
          refine ⟨by show 4 ≤ sizeLine; decide, fun t ht => ?_⟩
          refine k (.ref t) (.whl en x6 x7) _ ⟨hn, ⟨o6, by omega⟩, o7⟩ ?_ ?_ (T7.keep (same_upd ht)) (((K3.trans K6).trans K7).trans (Kept.of (same_upd ht)))
          · have e1 := Nat.le_trans (wd_le x6) (fwd_mono d6)
            have e3 : fwd 1 = 9 := rfl
            have e4 := gwd_ge (m - 1)
            obtain ⟨u3, u4⟩ := w7
            refine ⟨?_, by show blkNst x7 + 1 ≤ m; omega⟩
            show 3 + x6.wd + (2 + blkWd x7) ≤ gwd m
            omega
          · have a6' := At.keep (same_upd ht (o := .tup [.str "while", .str en, v6, v7])) (At.rws (T6.rws K7) a6)
            have a7' := At.keep (same_upd ht (o := .tup [.str "while", .str en, v6, v7])) a7
            unfold blkDt at a7'
            unfold Stm.dt
            rw [At]
            refine ⟨t, _, rfl, upd_same, ?_⟩
            simp only [AtL]
            exact ⟨_, _, rfl, by unfold At; rfl, _, _, rfl, by unfold At; rfl, _, _, rfl, a6', _, _, rfl, a7', rfl⟩
end
end OS

namespace OS
open PySem PySem.Spec PyProof.Rows L2
/-! ### trees are drawn: parts, the whole -/
def prtWd (p : Prt) : Nat := 4 + 2 * p.params.length + (2 + blkWd p.body)
def prtsWd : List Prt → Nat
  | [] => 0
  | p :: r => prtWd p + prtsWd r
theorem prtsWd_snoc : ∀ (b : List Prt) (s : Prt), prtsWd (b ++ [s]) = prtsWd b + prtWd s
  | [], s => by
    show prtWd s + 0 = 0 + prtWd s
    omega
  | x :: r, s => by
    show prtWd x + prtsWd (r ++ [s]) = prtWd x + prtsWd r + prtWd s
    rw [prtsWd_snoc r s]
    omega
def Tree.wd (t : Tree) : Nat := 2 + 2 * t.ends.length + prtsWd t.parts + (2 + blkWd t.body)
structure TOk (t : Tree) : Prop where
  e0 : t.ends ≠ []
  en : ∀ e ∈ t.ends, Nm e
  po : ∀ p ∈ t.parts, POk p
  bo : blkOk t.body
section
variable {P : Program} {w : World} {K : PySem.W.Frag} {mg : Str → Option Value} {base : Heap}
theorem stm_all (T : Txt K mg) {f__law_take : Addr} {d__law_take : FuncData} (c__law_take : Cal P w K mg base 1 "_law_take" ["tape", "many"] spTake f__law_take d__law_take) {f__law_two : Addr} {d__law_two : FuncData} (c__law_two : Cal P w K mg base 2 "_law_two" ["tape", "ends"] spTwo f__law_two d__law_two) {f__law_value : Addr} {d__law_value : FuncData} (c__law_value : Cal P w K mg base 6 "_law_value" ["tape", "depth"] (spVal K 3) f__law_value d__law_value) {f1 f2 : Addr} {d1 d2 : FuncData}
    (F1 : Fun K "_law_block" "_law_block" s__law_block f1 d1) (b1 : Binds K d1 ["tape", "ends", "parts", "depth", "most"] []) (m1 : mg "_law_block" = some (.ref f1))
    (F2 : Fun K "_law_statement" "_law_statement" s__law_statement f2 d2) (b2 : Binds K d2 ["tape", "ends", "parts", "depth"] []) (m2 : mg "_law_statement" = some (.ref f2)) :
    ∀ n : Nat, FnOk P w K mg base CX0 (8+2*n) f2 d2 ["tape", "ends", "parts", "depth"] (spStm K n)
  | 0 => stm_none
  | n + 1 => by
    have ih := stm_all T c__law_take c__law_two c__law_value F1 b1 m1 F2 b2 m2 n
    exact ok_law_statement F2 T n c__law_take c__law_two c__law_value ⟨ok_law_block F1 T n c__law_take ⟨ih, b2, F2.kp, m2⟩, b1, F1.kp, m1⟩
theorem dval_all (T : Txt K mg) {f__law_take : Addr} {d__law_take : FuncData} (c__law_take : Cal P w K mg base 1 "_law_take" ["tape", "many"] spTake f__law_take d__law_take) {f__law_number : Addr} {d__law_number : FuncData} (c__law_number : Cal P w K mg base 2 "_law_number" ["tape"] spNumber f__law_number d__law_number) {f1 : Addr} {d1 : FuncData}
    (F1 : Fun K "_law_value" "_law_value" s__law_value f1 d1) (b1 : Binds K d1 ["tape", "depth"] []) (m1 : mg "_law_value" = some (.ref f1)) :
    ∀ n : Nat, FnOk P w K mg base CX0 (3+n) f1 d1 ["tape", "depth"] (spVal K n)
  | 0 => val_none
  | n + 1 => by
    have ih := dval_all T c__law_take c__law_number F1 b1 m1 n
    exact ok_law_value F1 T n c__law_take c__law_number ⟨ih, b1, F1.kp, m1⟩
theorem sl_take {K : PySem.W.Frag} {H : Hp} {a : Addr} {es : List Str} {j : Nat} {Q : VK} (h : H a = some (.tup (es.map V.str))) (hj : j ≤ es.length) (q : ∀ p H', H' p = some (.tup ((es.take j).map V.str)) → Same H H' → Q (.ref p) H') : rSlA K (.ref a) none (some (j : Int)) H Q := by
  have e0 : HT.sIx (es.map V.str).length 0 none = 0 := rfl
  have e1 : HT.sIx (es.map V.str).length (es.map V.str).length (some (j : Int)) = j := by
    rw [HT.sIx_nat, List.length_map]
    omega
  refine ⟨a, _, rfl, SqT.of h, fun e => q a H ?_ (fun _ _ z => z), fun _ p hp => q p _ ?_ (same_upd hp)⟩
  · rw [e1, List.length_map] at e
    rw [e.2, List.take_length]
    exact h
  · rw [upd_same]
    show some (HO.tup (((es.map V.str).drop (HT.sIx (es.map V.str).length 0 none)).take (HT.sIx (es.map V.str).length (es.map V.str).length (some (j : Int)) - HT.sIx (es.map V.str).length 0 none))) = _
    rw [e0, e1, List.drop_zero, Nat.sub_zero, List.map_take]
def spTreeD (K : PySem.W.Frag) (n : Nat) : Sp := fun vs H Q _ => ∃ (d c : Addr) (m k : Nat), vs = [.ref d, .int m, .int k] ∧ m < n ∧ m ≤ 1000 ∧ k ≤ 5 ∧ Tape H d c ∧
  ∀ (v : V) (x : Tree) H', TOk x → (x.wd ≤ 716 + k * gwd m ∧ blkNst x.body ≤ m) → At K H' x.dt v → Tape H' d c → Kept d H H' → Q v H'
theorem ok_law_tree {f : Addr} {fd : FuncData} (F : Fun K "_law_tree" "_law_tree" s__law_tree f fd) (T : Txt K mg) {f__law_take : Addr} {d__law_take : FuncData} (c__law_take : Cal P w K mg base 1 "_law_take" ["tape", "many"] spTake f__law_take d__law_take) (n : Nat) (hn2 : 2 ≤ n) {f__law_block : Addr} {d__law_block : FuncData} (c__law_block : Cal P w K mg base (8+2*n+1) "_law_block" ["tape", "ends", "parts", "depth", "most"] (spBlk K n) f__law_block d__law_block) : FnOk P w K mg base CX0 (8+2*n+2) f fd ["tape", "depth", "most"] (spTreeD K n) := by
  refine F.ok sc__law_tree (fun vs H Q E h => ?_) (fun cdv A outer s H vs Q E hr h => ?_)
  · obtain ⟨d, c, m, k, rfl, _⟩ := h
    rfl
  · obtain ⟨d, c, m, most, rfl, hm, hm1, hk, hT, k⟩ := h
    refine ⟨_, (pss_cons (ps_set (i := 3) sc__law_tree.nd rfl (.inl rfl) (pe_slice sl_tupA (pe_tup (pa_cons pe_str (pa_cons pe_str (pa_cons pe_str (pa_cons pe_str pa_nil))))) po_none (po_some (pe_op op_add pe_int (pe_call c__law_take.G (hr.mono (by omega)) (by rfl) c__law_take.m c__law_take.k c__law_take.b .nil pass0 (pa_cons (pv 0) (pa_cons pe_int pa_nil)))))))
      (pss_cons (ps_set (i := 4) sc__law_tree.nd rfl (.inl rfl) (pe_lst pa_nil))
      (pss_cons (ps_for PassesOwn.never rfl (pi_range1 (by rfl) T.range (pa_cons (pe_call c__law_take.G (hr.mono (by omega)) (by rfl) c__law_take.m c__law_take.k c__law_take.b .nil pass0 (pa_cons (pv 0) (pa_cons pe_int pa_nil))) pa_nil)) (pg_name (i := 5) sc__law_tree.nd rfl (.inl rfl)) (pss_cons (ps_set (i := 6) sc__law_tree.nd rfl (.inl rfl) (pe_slice sl_tupA (pe_tup (pa_cons pe_str (pa_cons pe_str (pa_cons pe_str pa_nil)))) po_none (po_some (pe_op op_add pe_int (pe_call c__law_take.G (hr.mono (by omega)) (by rfl) c__law_take.m c__law_take.k c__law_take.b .nil pass0 (pa_cons (pv 0) (pa_cons pe_int pa_nil)))))))
      (pss_cons (ps_set (i := 7) sc__law_tree.nd rfl (.inl rfl) (pe_op op_add_str pe_str (pe_callTy call_str_int (by rfl) T.str (by decide +kernel) (pa_cons (pv 5) pa_nil))))
      (pss_one (ps_expr (pe_bm PySem.F.plainAttrs_list PySem.F.slot_list_append PySem.F.type_list_append mt_append (pv 4) (pa_cons (pe_tup (pa_cons (pv 7) (pa_cons (pv 6) (pa_cons (pe_call c__law_block.G (hr.mono (by omega)) (by rfl) c__law_block.m c__law_block.k c__law_block.b .nil pass0 (pa_cons (pv 0) (pa_cons (pv 6) (pa_cons (pv 4) (pa_cons pe_int (pa_cons pe_int pa_nil)))))) pa_nil)))) pa_nil)))))))
      (pss_one (ps_ret (pe_tup (pa_cons (pv 3) (pa_cons (pe_callTy call_tuple_of (by rfl) T.tuple (by decide +kernel) (pa_cons (pv 4) pa_nil)) (pa_cons (pe_call c__law_block.G (hr.mono (by omega)) (by rfl) c__law_block.m c__law_block.k c__law_block.b .nil pass0 (pa_cons (pv 0) (pa_cons (pv 3) (pa_cons (pv 4) (pa_cons (pv 1) (pa_cons (pv 2) pa_nil)))))) pa_nil))))))))), ?_⟩
    refine ⟨by show 4 ≤ sizeLine; decide, fun E1 nE => ?_⟩
    refine ⟨_, rfl, d, c, 3, rfl, hT.keep (same_upd nE), by decide, by decide, fun r1 H1 a0 a1 T1 O1 => ?_⟩
    obtain ⟨n1, rfl⟩ := Int.eq_ofNat_of_zero_le a0
    have hE1 : H1 E1 = some (.tup ([("a" : Str), "b", "c", "d"].map V.str)) := by
      rw [O1 E1 (hT.ne nE).1]
      exact upd_same
    refine ⟨_, _, rfl, rfl, _, rfl, ?_⟩
    have ej : (2 : Int) + (n1 : Int) = ((2 + n1 : Nat) : Int) := by omega
    show rSlA K (.ref E1) none (some ((2 : Int) + (n1 : Int))) H1 _
    rw [ej]
    refine sl_take hE1 (by show 2 + n1 ≤ 4; omega) fun pe H2 hpe s2 => ?_
    have T2 := T1.keep s2
    have K2 : Kept d H H2 := ((Kept.of (same_upd nE)).trans O1.kept).trans (Kept.of s2)
    have eso : ∀ e ∈ ([("a" : Str), "b", "c", "d"].take (2 + n1)), Nm e := fun e he => by
      have he := List.mem_of_mem_take he
      simp only [List.mem_cons, List.not_mem_nil, or_false] at he
      unfold Nm
      rcases he with rfl | rfl | rfl | rfl <;> simp
    have esn : ([("a" : Str), "b", "c", "d"].take (2 + n1)).Nodup := (List.take_sublist _ _).nodup (by decide +kernel)
    have esl : ([("a" : Str), "b", "c", "d"].take (2 + n1)).length = 2 + n1 := by
      rw [List.length_take]
      show min (2 + n1) 4 = _
      omega
    generalize ([("a" : Str), "b", "c", "d"].take (2 + n1)) = es at hpe eso esn esl
    refine ⟨Nat.zero_le _, fun pl nl => ?_⟩
    have nl0 : H pl = none := by
      cases e : H pl with
      | none => rfl
      | some o => rw [K2 pl o (T2.ne nl).1 e] at nl; cases nl
    refine ⟨_, rfl, d, c, 3, rfl, T2.keep (same_upd nl), by decide, by decide, fun r3 H3 b0 b1 T3 O3 => ?_⟩
    obtain ⟨n3, rfl⟩ := Int.eq_ofNat_of_zero_le b0
    have w3 := (T2.keep (same_upd (o := .lst []) nl)).rws O3.kept
    refine ⟨_, rfl, by omega, by omega, ?_⟩
    have hpe3 := w3.1 _ _ (same_upd (o := .lst []) nl _ _ hpe)
    have hpl3 := w3.2 _ _ (upd_same (H := H2) (a := pl) (o := .lst []))
    refine for_range (n := n3) (fun i σ H' => ∃ (ps : List Prt) (y5 y6 y7 : Option V) (vs : List V), σ = [some (.ref d), some (.int m), some (.int most), some (.ref pe), some (.ref pl), y5, y6, y7] ∧ H' pl = some (.lst vs) ∧ AtL K H' (ps.map Prt.dt) vs ∧ ps.length = i ∧ (∀ p ∈ ps, POk p) ∧ prtsWd ps ≤ i * 352 ∧ H' pe = some (.tup (es.map V.str)) ∧ Tape H' d c ∧ (pl ≠ d ∧ pl ≠ c) ∧ Kept d H H')
      ⟨[], none, none, none, [], rfl, hpl3, by simp only [List.map_nil, AtL], rfl, fun p h => (by cases h), Nat.zero_le _, hpe3, T3, T2.ne nl, (K2.trans (Kept.of (same_upd nl))).trans O3.kept⟩ ?_ ?_
    · rintro i σ H4 hi ⟨ps, y5, y6, y7, vs, rfl, hpl, hat, hl, ho, hw, hpe4, T4, npl, K4⟩
      refine ⟨by show 3 ≤ sizeLine; decide, fun E2 nE2 => ?_⟩
      refine ⟨_, rfl, d, c, 3, rfl, T4.keep (same_upd nE2), by decide, by decide, fun r5 H5 c0 c1 T5 O5 => ?_⟩
      obtain ⟨n5, rfl⟩ := Int.eq_ofNat_of_zero_le c0
      have hE2 : H5 E2 = some (.tup ([("x" : Str), "y", "z"].map V.str)) := by
        rw [O5 E2 (T4.ne nE2).1]
        exact upd_same
      refine ⟨_, _, rfl, rfl, _, rfl, ?_⟩
      have ej : (1 : Int) + (n5 : Int) = ((1 + n5 : Nat) : Int) := by omega
      show rSlA K (.ref E2) none (some ((1 : Int) + (n5 : Int))) H5 _
      rw [ej]
      refine sl_take hE2 (by show 1 + n5 ≤ 3; omega) fun pq H6 hpq s6 => ?_
      have K46 : Kept d H4 H6 := ((Kept.of (same_upd nE2)).trans O5.kept).trans (Kept.of s6)
      have w46 := T4.rws K46
      have T6 := T5.keep s6
      have pso : ∀ e ∈ ([("x" : Str), "y", "z"].take (1 + n5)), Nm e := fun e he => by
        have he := List.mem_of_mem_take he
        simp only [List.mem_cons, List.not_mem_nil, or_false] at he
        unfold Nm
        rcases he with rfl | rfl | rfl <;> simp
      have psn : ([("x" : Str), "y", "z"].take (1 + n5)).Nodup := (List.take_sublist _ _).nodup (by decide +kernel)
      have psl : ([("x" : Str), "y", "z"].take (1 + n5)).length = 1 + n5 := by
        rw [List.length_take]
        show min (1 + n5) 3 = _
        omega
      generalize ([("x" : Str), "y", "z"].take (1 + n5)) = pars at hpq pso psn psl
      have hpl6 := w46.2 _ _ hpl
      have hat6 := AtL.rws w46 hat
      -- name = 'p' + str(k)
      refine ⟨_, rfl, _, rfl, ?_, "p", _, rfl, rfl, ?_, ?_⟩
      · have hi2 : i < 2 := by omega
        rcases (by omega : i = 0 ∨ i = 1) with q | q <;> subst q <;> decide
      · rcases (by omega : i = 0 ∨ i = 1) with q | q <;> subst q <;> decide +kernel
      obtain ⟨nm, enm, hnm⟩ : ∃ nm : Str, ("p" : Str) ++ Str.ofString (toString ((0 : Int) + (i : Int))) = nm ∧ Nm nm := by
        refine ⟨_, rfl, ?_⟩
        rcases (by omega : i = 0 ∨ i = 1) with q | q
        · subst q
          have : ("p" : Str) ++ Str.ofString (toString ((0 : Int) + ((0 : Nat) : Int))) = "p0" := by decide +kernel
          rw [this]
          unfold Nm
          simp
        · subst q
          have : ("p" : Str) ++ Str.ofString (toString ((0 : Int) + ((1 : Nat) : Int))) = "p1" := by decide +kernel
          rw [this]
          unfold Nm
          simp
      rw [enm]
      refine ⟨_, rfl, .inl ⟨rfl, _, SqL.of hpl6⟩, ?_⟩
      refine ⟨_, rfl, _, rfl, ?_⟩
      refine ⟨_, rfl, _, rfl, _, rfl, d, c, pq, pl, pars, ps, 1, 2, rfl, by omega, by omega, by omega, ⟨T6, hpq, by omega, by omega, psn, pso, ⟨vs, hpl6, hat6⟩, ho, by omega⟩, fun v7 x7 H7 o7 w7 a7 T7 K7 => ?_⟩
      refine ⟨by show 3 ≤ sizeLine; decide, fun t ht => ?_⟩
      have wr7 := T6.rws K7
      have s8 := same_upd (o := .tup [.str nm, .ref pq, v7]) ht
      have hpl8 := s8 _ _ (wr7.2 _ _ hpl6)
      have hx : At K (upd H7 t (.tup [.str nm, .ref pq, v7])) (Prt.dt ⟨nm, pars, x7⟩) (.ref t) := by
        have an := At.keep s8 (At.rws wr7 (names_at hpq (K := K)))
        have ab := At.keep s8 a7
        unfold Prt.dt
        rw [At]
        refine ⟨t, _, rfl, upd_same, ?_⟩
        simp only [AtL]
        exact ⟨_, _, rfl, by unfold At; rfl, _, _, rfl, an, _, _, rfl, ab, rfl⟩
      have K8 : Kept d H _ := ((K4.trans K46).trans K7).trans (Kept.of s8)
      refine ⟨pl, _, _, rfl, rfl, hpl8, ?_, ps ++ [⟨nm, pars, x7⟩], _, _, _, _, rfl, upd_same, ?_, ?_, ?_, ?_, ?_, (T7.keep s8).put npl, npl, K8.upd nl0⟩
      · have := hat.length
        rw [List.length_map] at this
        exact sz6' (by omega)
      · rw [List.map_append]
        exact AtL.snoc (At.offL hpl8 (prt_noL _) hx) (AtL.offL hpl8 (prts_noL ps) (AtL.keep s8 (AtL.rws wr7 hat6)))
      · rw [List.length_append, hl]
        rfl
      · intro p hp
        rcases List.mem_append.mp hp with hp | hp
        · exact ho p hp
        · rw [List.mem_singleton.mp hp]
          refine ⟨hnm, fun q => ?_, pso, by show pars.length ≤ 3; omega, o7, w7.2⟩
          have q : pars = [] := q
          rw [q] at psl
          have : 0 = 1 + n5 := psl
          omega
      · rw [prtsWd_snoc, Nat.succ_mul]
        have e1 : gwd 1 = 170 := rfl
        have w7 := w7.1
        show prtsWd ps + (4 + 2 * pars.length + (2 + blkWd x7)) ≤ i * 352 + 352
        omega
      · rw [upd_ne (ne_of (s8 _ _ (wr7.1 _ _ (w46.1 _ _ hpe4))) hpl8 (by intro z; cases z))]
        exact s8 _ _ (wr7.1 _ _ (w46.1 _ _ hpe4))
    · rintro σ H4 ⟨ps, y5, y6, y7, vs, rfl, hpl, hat, hl, ho, hw, hpe4, T4, npl, K4⟩
      refine ⟨_, rfl, _, rfl, pl, _, rfl, .inl ⟨SqL.of hpl, fun tp htp => ?_⟩⟩
      have s5 := same_upd (o := .tup vs) htp
      refine ⟨_, rfl, _, rfl, _, rfl, _, rfl, _, rfl, d, c, pe, pl, es, ps, m, most, rfl, by omega, by omega, hk, ⟨T4.keep s5, s5 _ _ hpe4, by omega, by omega, esn, eso, ⟨vs, s5 _ _ hpl, AtL.keep s5 hat⟩, ho, by omega⟩, fun v6 x6 H6 o6 w6 a6 T6 K6 => ?_⟩
      have wr := (T4.keep s5).rws K6
      refine ⟨by show 3 ≤ sizeLine; decide, fun t ht => ?_⟩
      have s7 := same_upd (o := .tup [.ref pe, .ref tp, v6]) ht
      refine k (.ref t) ⟨es, ps, x6⟩ _ ⟨fun q => ?_, eso, ho, o6⟩ ?_ ?_ (T6.keep s7) (((K4.trans (Kept.of s5)).trans K6).trans (Kept.of s7))
      · have q : es = [] := q
        rw [q] at esl
        have : 0 = 2 + n1 := esl
        omega
      · obtain ⟨w6, w62⟩ := w6
        refine ⟨?_, w62⟩
        show 2 + 2 * es.length + prtsWd ps + (2 + blkWd x6) ≤ 716 + most * gwd m
        omega
      · have an := At.keep s7 (At.rws wr (At.keep s5 (names_at hpe4 (K := K))))
        have ab := At.keep s7 a6
        have apt := AtL.keep s7 (AtL.rws wr (AtL.keep s5 hat))
        unfold Tree.dt
        rw [At]
        refine ⟨t, _, rfl, upd_same, ?_⟩
        simp only [AtL]
        refine ⟨_, _, rfl, an, _, _, rfl, ?_, _, _, rfl, ab, rfl⟩
        rw [At]
        exact ⟨tp, _, rfl, s7 _ _ (wr.1 _ _ upd_same), apt⟩
end
end OS

namespace OS
open PySem PySem.Spec PyProof.Rows L2
/-! ### the tokens of a beginning of a text -/
theorem tw_take {p : Nat → Bool} : ∀ {l : List Nat} {n : Nat}, (l.takeWhile p).length ≤ n → (l.take n).takeWhile p = l.takeWhile p
  | [], n, _ => by simp
  | c :: r, 0, h => by
    rw [List.takeWhile_cons] at h ⊢
    split at h
    · rw [List.length_cons] at h; omega
    · rename_i hc
      rw [if_neg hc]
      rfl
  | c :: r, n + 1, h => by
    rw [List.take_succ_cons, List.takeWhile_cons, List.takeWhile_cons]
    rw [List.takeWhile_cons] at h
    split at h
    · rename_i hc
      rw [List.length_cons] at h
      rw [if_pos hc, if_pos hc, tw_take (Nat.le_of_succ_le_succ h)]
    · rename_i hc
      rw [if_neg hc, if_neg hc]
theorem run_take {p : Nat → Bool} {cs : List Nat} {i b : Nat} (h : run p cs i ≤ b) : run p (cs.take b) i = run p cs i := by
  unfold run at h ⊢
  rw [List.drop_take, tw_take (by omega)]
theorem get_take {cs : List Nat} {i b : Nat} (h : i < b) : (cs.take b)[i]? = cs[i]? := by
  rw [List.getElem?_take, if_pos h]
theorem long_one (c : Nat) : tab.long [c] = false := by
  show inV (.str ⟨[c].toArray⟩) (longsL.map V.str) = false
  rw [inV_str]
  refine decide_eq_false fun h => ?_
  have h2 : ∀ x ∈ longsL, x.length = 2 := by decide +kernel
  have := h2 _ h
  have e : (⟨[c].toArray⟩ : Str).length = 1 := rfl
  omega
theorem long_nil : tab.long [] = false := by
  show inV (.str ⟨([] : List Nat).toArray⟩) (longsL.map V.str) = false
  rw [inV_str]
  refine decide_eq_false fun h => ?_
  have h2 : ∀ x ∈ longsL, x.length = 2 := by decide +kernel
  have := h2 _ h
  have e : (⟨([] : List Nat).toArray⟩ : Str).length = 0 := rfl
  omega
theorem tokAt_take {cs : List Nat} {i b : Nat} (hi : i < cs.length) (h : (tokAt tab cs i).2 ≤ b) : tokAt tab (cs.take b) i = tokAt tab cs i := by
  have hg := tokAt_gt tab cs i
  have e0 := get_take (cs := cs) (show i < b by omega)
  have ec := List.getElem?_eq_getElem hi
  generalize cs[i] = c at ec
  have hd := drop_at ec
  unfold tokAt at h ⊢
  rw [e0]
  rw [ec] at h ⊢
  simp only at h ⊢
  by_cases c1 : isLetter c = true
  · rw [if_pos c1] at h
    rw [if_pos c1, if_pos c1]
    have h : run isName cs i ≤ b := h
    have hr := le_run isName cs i
    rw [run_take h, List.drop_take, List.take_take]
    have : min (run isName cs i - i) (b - i) = run isName cs i - i := by omega
    rw [this]
  · rw [if_neg c1] at h
    rw [if_neg c1, if_neg c1]
    by_cases c2 : isDigit c = true
    · rw [if_pos c2] at h
      rw [if_pos c2, if_pos c2]
      have h : run isDigit cs i ≤ b := h
      rw [run_take h]
    · rw [if_neg c2] at h
      rw [if_neg c2, if_neg c2]
      by_cases c3 : tab.long ((cs.drop i).take 2) = true
      · rw [if_pos c3] at h
        have h : i + 2 ≤ b := h
        have e : ((cs.take b).drop i).take 2 = (cs.drop i).take 2 := by
          rw [List.drop_take, List.take_take]
          have : min 2 (b - i) = 2 := by omega
          rw [this]
        rw [e]
      · rw [if_neg c3] at h
        have h : i + 1 ≤ b := h
        rw [if_neg c3]
        have e : ¬ tab.long (((cs.take b).drop i).take 2) = true := by
          rw [List.drop_take, List.take_take]
          by_cases hb : i + 2 ≤ b
          · have : min 2 (b - i) = 2 := by omega
            rw [this]
            exact c3
          · have : min 2 (b - i) = 1 := by omega
            rw [this, hd]
            show ¬ tab.long [c] = true
            rw [long_one]
            exact Bool.false_ne_true
        rw [if_neg e]
theorem toks_sorted {T : Tab} {cs : List Nat} {i : Nat} {L : List Tk} (h : Toks T cs i L) : ∀ {k j : Nat} {t u : Tk}, L[k]? = some t → L[j]? = some u → k < j → t.b ≤ u.a := by
  induction h with
  | done _ => intro k j t u e; simp at e
  | skip _ _ _ ih => exact ih
  | note _ _ ih => exact ih
  | tok e n1 n2 r ih =>
    rename_i i0 c0 L0
    intro k j t u ek ej hkj
    cases j with
    | zero => omega
    | succ j =>
      cases k with
      | zero =>
        have ek := Option.some.inj ek
        subst ek
        have hu : u ∈ L0 := List.mem_of_getElem? (show L0[j]? = some u from ej)
        exact (toks_mem r u hu).1
      | succ k => exact ih (k := k) (j := j) ek ej (by omega)
theorem toks_lt {T : Tab} {cs : List Nat} {i : Nat} {L : List Tk} (h : Toks T cs i L) {t : Tk} (ht : t ∈ L) : t.a < t.b := by
  obtain ⟨_, _, e⟩ := toks_mem h t ht
  have := tokAt_gt T cs t.a
  rw [e] at this
  exact this
theorem toks_take {cs : List Nat} {i : Nat} {L : List Tk} (h : Toks tab cs i L) : ∀ {j : Nat} {t : Tk}, L[j]? = some t → Toks tab (cs.take t.b) i (L.take (j + 1)) := by
  induction h with
  | done _ => intro j t e; simp at e
  | skip e hc r ih =>
    intro j t ej
    have hm := List.mem_of_getElem? ej
    have h1 := (toks_mem r t hm).1
    have h2 := toks_lt r hm
    exact .skip ((get_take (by omega)).trans e) hc (ih ej)
  | note e r ih =>
    rename_i i0 L0
    intro j t ej
    have hm := List.mem_of_getElem? ej
    have h1 := (toks_mem r t hm).1
    have h2 := toks_lt r hm
    have h3 := le_run notNl cs i0
    refine .note ((get_take (by omega)).trans e) ?_
    rw [run_take (by omega)]
    exact ih ej
  | tok e n1 n2 r ih =>
    rename_i i c L
    intro j t ej
    have hi := (List.getElem?_eq_some_iff.mp e).1
    cases j with
    | zero =>
      have ej := Option.some.inj ej
      subst ej
      have hg := tokAt_gt tab cs i
      show Toks tab (cs.take (tokAt tab cs i).2) i [_]
      have et := tokAt_take hi (Nat.le_refl _)
      have r2 : Toks tab (cs.take (tokAt tab cs i).2) (tokAt tab (cs.take (tokAt tab cs i).2) i).2 [] := .done (by rw [et, List.length_take]; exact Nat.min_le_left _ _)
      have := Toks.tok ((get_take (cs := cs) hg).trans e) n1 n2 r2
      rw [et] at this
      exact this
    | succ j =>
      have hm := List.mem_of_getElem? (show L[j]? = some t from ej)
      have h1 := (toks_mem r t hm).1
      have h2 := toks_lt r hm
      have hg := tokAt_gt tab cs i
      have et := tokAt_take (b := t.b) hi (by omega)
      show Toks tab (cs.take t.b) i (_ :: L.take (j + 1))
      have r2 := ih (show L[j]? = some t from ej)
      rw [← et] at r2
      have := Toks.tok ((get_take (cs := cs) (show i < t.b by omega)).trans e) n1 n2 r2
      rw [et] at this
      exact this
/-- the text up to b -/
def upTo (z : Str) (b : Nat) : Str := cutS z none (some (b : Int))
theorem upTo_cps (z : Str) (b : Nat) : (upTo z b).cps.toList = z.cps.toList.take b := by
  unfold upTo cutS
  have e1 : HT.sIx z.length 0 none = 0 := rfl
  rw [e1, HT.sIx_nat, List.drop_zero, Nat.sub_zero]
  show ((z.cps.toList.take (min b z.length)).toArray).toList = _
  rw [len_cps]
  show z.cps.toList.take (min b z.cps.toList.length) = _
  by_cases h : b ≤ z.cps.toList.length
  · rw [Nat.min_eq_left h]
  · rw [Nat.min_eq_right (by omega), List.take_length, List.take_of_length_le (by omega)]
theorem toks2_take {z : Str} {L : List Tk} (h : Toks tab z.cps.toList 0 L) {j : Nat} {t : Tk} (e : L[j]? = some t) : toks2 (upTo z t.b) (L.take (j + 1)) = (toks2 z L).take (j + 1) := by
  have h2 := toks_take h e
  unfold toks2
  rw [← List.map_take]
  refine List.map_congr_left fun u hu => ?_
  have hu1 := List.mem_of_mem_take hu
  obtain ⟨_, m1, m2⟩ := toks_mem h u hu1
  rw [← upTo_cps] at h2
  obtain ⟨_, m3, m4⟩ := toks_mem h2 u hu
  have hb : u.b ≤ t.b := by
    obtain ⟨k, hk, ek⟩ := List.getElem_of_mem hu
    rw [List.length_take] at hk
    have ek2 : L[k]? = some u := by
      have := List.getElem?_eq_getElem (l := L.take (j + 1)) (i := k) (by rw [List.length_take]; exact hk)
      rw [ek, List.getElem?_take, if_pos (by omega)] at this
      exact this
    by_cases hkj : k = j
    · subst hkj
      rw [ek2] at e
      injection e with e
      rw [e]
      exact Nat.le_refl _
    · have s1 := toks_sorted h ek2 e (by omega)
      have s2 := toks_lt h (List.mem_of_getElem? e)
      omega
  rw [word_eq m1 m2, word_eq m3 m4, upTo_cps, List.drop_take, List.take_take]
  have : min (u.b - u.a) (t.b - u.a) = u.b - u.a := by omega
  rw [this]
/-! ### words that are put behind each other, with gaps, are the tokens of the text -/
theorem tw_app {p : Nat → Bool} : ∀ {l x : List Nat}, (l.takeWhile p).length < l.length → (l ++ x).takeWhile p = l.takeWhile p
  | [], x, h => by simp at h
  | c :: r, x, h => by
    rw [List.cons_append, List.takeWhile_cons, List.takeWhile_cons]
    rw [List.takeWhile_cons] at h
    split at h
    · rename_i hc
      rw [if_pos hc, if_pos hc, tw_app (by simpa using h)]
    · rename_i hc
      rw [if_neg hc, if_neg hc]
theorem tw_all {p : Nat → Bool} {l x : List Nat} (h : (l.takeWhile p).length = l.length) (hx : ∀ c r, x = c :: r → p c = false) : (l ++ x).takeWhile p = l := by
  induction l with
  | nil =>
    cases x with
    | nil => rfl
    | cons c r => rw [List.nil_append, List.takeWhile_cons, hx c r rfl]; rfl
  | cons c l ih =>
    rw [List.takeWhile_cons] at h
    split at h
    · rename_i hc
      rw [List.cons_append, List.takeWhile_cons, if_pos hc, ih (by simpa using h)]
    · simp at h
theorem tw_len {p : Nat → Bool} (l : List Nat) : (l.takeWhile p).length ≤ l.length := (List.takeWhile_sublist p).length_le
theorem run_app {p : Nat → Bool} {cs x : List Nat} {i : Nat} (hi : i ≤ cs.length) (h : run p cs i < cs.length) : run p (cs ++ x) i = run p cs i := by
  unfold run at h ⊢
  rw [List.drop_append_of_le_length hi, tw_app (by rw [List.length_drop]; omega)]
theorem run_all {p : Nat → Bool} {cs x : List Nat} {i : Nat} (hi : i ≤ cs.length) (h : run p cs i = cs.length) (hx : ∀ c r, x = c :: r → p c = false) : run p (cs ++ x) i = cs.length := by
  unfold run at h ⊢
  have hl : ((cs.drop i).takeWhile p).length = (cs.drop i).length := by rw [List.length_drop]; omega
  rw [List.drop_append_of_le_length hi, tw_all hl hx, List.length_drop]
  omega
theorem tokAt_app {cs x : List Nat} {i : Nat} (hi : i < cs.length) (h : (tokAt tab cs i).2 < cs.length) : tokAt tab (cs ++ x) i = tokAt tab cs i := by
  have hg := tokAt_gt tab cs i
  have e0 : (cs ++ x)[i]? = cs[i]? := List.getElem?_append_left hi
  have ec := List.getElem?_eq_getElem hi
  generalize cs[i] = c at ec
  unfold tokAt at h ⊢
  rw [e0]
  rw [ec] at h ⊢
  simp only at h ⊢
  by_cases c1 : isLetter c = true
  · rw [if_pos c1] at h
    rw [if_pos c1, if_pos c1]
    have h : run isName cs i < cs.length := h
    rw [run_app (by omega) h, List.drop_append_of_le_length (by omega), List.take_append_of_le_length (by rw [List.length_drop]; omega)]
  · rw [if_neg c1] at h
    rw [if_neg c1, if_neg c1]
    by_cases c2 : isDigit c = true
    · rw [if_pos c2] at h
      rw [if_pos c2, if_pos c2]
      have h : run isDigit cs i < cs.length := h
      rw [run_app (by omega) h]
    · rw [if_neg c2] at h
      rw [if_neg c2, if_neg c2]
      have h2 : i + 2 ≤ cs.length := by
        by_cases c3 : tab.long ((cs.drop i).take 2) = true
        · rw [if_pos c3] at h
          have h : i + 2 < cs.length := h
          omega
        · rw [if_neg c3] at h
          have h : i + 1 < cs.length := h
          omega
      rw [List.drop_append_of_le_length (by omega), List.take_append_of_le_length (by rw [List.length_drop]; omega)]
/-- what may stand behind a text whose last sign is last -/
def NoMelt (last : Nat) (x : List Nat) : Prop := ∀ c r, x = c :: r → ¬ (isName last = true ∧ isName c = true) ∧ tab.long [last, c] = false
theorem digit_name {c : Nat} (h : isDigit c = true) : isName c = true := by
  unfold isName
  rw [h]
  simp
theorem tw_lastP {p : Nat → Bool} {l : List Nat} {c : Nat} (h : (l.takeWhile p).length = l.length) (hc : l.getLast? = some c) : p c = true := by
  have e : l.takeWhile p = l := List.IsPrefix.eq_of_length (List.takeWhile_prefix p) h
  have hm : c ∈ l := List.mem_of_getLast? hc
  rw [← e] at hm
  exact List.all_eq_true.mp (List.all_takeWhile) c hm
theorem last_drop {cs : List Nat} {i c : Nat} (hi : i < cs.length) (h : cs.getLast? = some c) : (cs.drop i).getLast? = some c := by
  rw [List.getLast?_drop, if_neg (by omega)]
  exact h
theorem tokAt_end {cs x : List Nat} {i last : Nat} (hi : i < cs.length) (h : (tokAt tab cs i).2 = cs.length) (hl : cs.getLast? = some last) (hm : NoMelt last x) : tokAt tab (cs ++ x) i = tokAt tab cs i := by
  have e0 : (cs ++ x)[i]? = cs[i]? := List.getElem?_append_left hi
  have ec := List.getElem?_eq_getElem hi
  generalize cs[i] = c at ec
  have hd := drop_at ec
  have hld := last_drop hi hl
  unfold tokAt at h ⊢
  rw [e0]
  rw [ec] at h ⊢
  simp only at h ⊢
  by_cases c1 : isLetter c = true
  · rw [if_pos c1] at h
    rw [if_pos c1, if_pos c1]
    have h : run isName cs i = cs.length := h
    have hlen : ((cs.drop i).takeWhile isName).length = (cs.drop i).length := by
      unfold run at h
      rw [List.length_drop]
      omega
    have hn := tw_lastP hlen hld
    have hx : ∀ c r, x = c :: r → isName c = false := fun c r e => by
      have := (hm c r e).1
      cases q : isName c with
      | true => exact absurd ⟨hn, q⟩ this
      | false => rfl
    rw [run_all (by omega) h hx, h, List.drop_append_of_le_length (by omega), List.take_append_of_le_length (by rw [List.length_drop]; omega)]
  · rw [if_neg c1] at h
    rw [if_neg c1, if_neg c1]
    by_cases c2 : isDigit c = true
    · rw [if_pos c2] at h
      rw [if_pos c2, if_pos c2]
      have h : run isDigit cs i = cs.length := h
      have hlen : ((cs.drop i).takeWhile isDigit).length = (cs.drop i).length := by
        unfold run at h
        rw [List.length_drop]
        omega
      have hn := digit_name (tw_lastP hlen hld)
      have hx : ∀ c r, x = c :: r → isDigit c = false := fun c r e => by
        have := (hm c r e).1
        cases q : isDigit c with
        | true => exact absurd ⟨hn, digit_name q⟩ this
        | false => rfl
      rw [run_all (by omega) h hx, h]
    · rw [if_neg c2] at h
      rw [if_neg c2, if_neg c2]
      by_cases c3 : tab.long ((cs.drop i).take 2) = true
      · rw [if_pos c3] at h
        have h : i + 2 = cs.length := h
        rw [List.drop_append_of_le_length (by omega), List.take_append_of_le_length (by rw [List.length_drop]; omega)]
      · rw [if_neg c3] at h
        have h : i + 1 = cs.length := h
        have e1 : cs.drop i = [c] := by
          rw [hd, List.drop_eq_nil_of_le (by omega)]
        rw [e1] at hld
        have hld : c = last := Option.some.inj hld
        subst hld
        rw [List.drop_append_of_le_length (by omega), e1]
        have e2 : tab.long (([c] ++ x).take 2) = false := by
          cases x with
          | nil => exact long_one c
          | cons y r => exact (hm y r rfl).2
        have e3 : tab.long ([c].take 2) = false := long_one c
        rw [e2, e3]
/-- a text that ends where its last token ends -/
def Ends (cs : List Nat) (i : Nat) (L : List Tk) : Prop := match L.getLast? with | none => i = cs.length | some t => t.b = cs.length
theorem ends_cons {cs : List Nat} {i j : Nat} {t : Tk} {L : List Tk} (h : Ends cs i (t :: L)) (ht : t.b = j) : Ends cs j L := by
  unfold Ends at h ⊢
  cases L with
  | nil =>
    rw [List.getLast?_nil]
    have h : t.b = cs.length := h
    show j = cs.length
    omega
  | cons u r =>
    rw [List.getLast?_cons_cons] at h
    exact h
theorem toks_app {cs x : List Nat} {i : Nat} {L : List Tk} (h : Toks tab cs i L) : Ends cs i L → (∀ last, cs.getLast? = some last → NoMelt last x) → ∀ {M : List Tk}, Toks tab (cs ++ x) cs.length M → Toks tab (cs ++ x) i (L ++ M) := by
  induction h with
  | done _ =>
    intro he _ M hM
    have he : _ = cs.length := he
    rw [he]
    exact hM
  | @skip i c L e hc r ih =>
    intro he hn M hM
    have hi := (List.getElem?_eq_some_iff.mp e).1
    have hL : L ≠ [] := by
      intro q
      subst q
      have he : i = cs.length := he
      omega
    obtain ⟨t, et⟩ : ∃ t, L.getLast? = some t := by
      cases q : L.getLast? with
      | none => exact absurd (List.getLast?_eq_none_iff.mp q) hL
      | some t => exact ⟨t, rfl⟩
    refine .skip ((List.getElem?_append_left hi).trans e) hc (ih ?_ hn hM)
    unfold Ends at he ⊢
    rw [et] at he ⊢
    exact he
  | @note i L e r ih =>
    intro he hn M hM
    have hi := (List.getElem?_eq_some_iff.mp e).1
    have hL : L ≠ [] := by
      intro q
      subst q
      have he : i = cs.length := he
      omega
    obtain ⟨t, et⟩ : ∃ t, L.getLast? = some t := by
      cases q : L.getLast? with
      | none => exact absurd (List.getLast?_eq_none_iff.mp q) hL
      | some t => exact ⟨t, rfl⟩
    obtain ⟨m1, m2, _⟩ := toks_mem r t (List.mem_of_getLast? et)
    refine .note ((List.getElem?_append_left hi).trans e) ?_
    rw [run_app (by omega) (by omega)]
    refine ih ?_ hn hM
    unfold Ends at he ⊢
    rw [et] at he ⊢
    exact he
  | @tok i c L e n1 n2 r ih =>
    intro he hn M hM
    have hi := (List.getElem?_eq_some_iff.mp e).1
    have he2 := ends_cons (j := (tokAt tab cs i).2) he rfl
    have et : tokAt tab (cs ++ x) i = tokAt tab cs i := by
      cases L with
      | nil =>
        have q : (tokAt tab cs i).2 = cs.length := he2
        obtain ⟨last, hl⟩ : ∃ c, cs.getLast? = some c := by
          cases q2 : cs.getLast? with
          | none => rw [List.getLast?_eq_none_iff.mp q2] at hi; exact absurd hi (Nat.not_lt_zero _)
          | some t => exact ⟨t, rfl⟩
        exact tokAt_end hi q hl (hn last hl)
      | cons u w =>
        obtain ⟨m1, m2, _⟩ := toks_mem r u (List.mem_cons_self ..)
        exact tokAt_app hi (by omega)
    have r2 := ih he2 hn hM
    rw [← et] at r2
    have := Toks.tok ((List.getElem?_append_left hi).trans e) n1 n2 r2
    rw [et] at this
    exact this
theorem tokAt_shift (T : Tab) (pre w : List Nat) : tokAt T (pre ++ w) pre.length = ((tokAt T w 0).1, pre.length + (tokAt T w 0).2) := by
  have e0 : (pre ++ w)[pre.length]? = w[0]? := by rw [List.getElem?_append_right (Nat.le_refl _), Nat.sub_self]
  have ed : (pre ++ w).drop pre.length = w := by rw [List.drop_left]
  have er : ∀ p, run p (pre ++ w) pre.length = pre.length + run p w 0 := fun p => by
    unfold run
    rw [ed, List.drop_zero]
    omega
  unfold tokAt
  rw [e0, ed, er, er, List.drop_zero]
  cases w[0]? with
  | none => rfl
  | some c =>
    simp only
    rw [Nat.add_sub_cancel_left, Nat.sub_zero]
    split
    · rfl
    · split
      · rfl
      · split
        · rw [Nat.zero_add]
        · rw [Nat.zero_add]
/-- w is one token -/
structure Word (w : Str) (s : Srt) : Prop where
  first : ∃ c, w.cps.toList[0]? = some c ∧ ¬ (c = 32 ∨ c = 10) ∧ c ≠ 35
  tk : tokAt tab w.cps.toList 0 = (s, w.cps.toList.length)
def noteL : List Nat := [32, 35, 32, 110, 111, 116, 101, 32, 125, 10]
def Gp (g : List Nat) : Prop := g = [] ∨ g = [32] ∨ g = [32, 32] ∨ g = [10] ∨ g = noteL
theorem word_tok {pre : List Nat} {w : Str} {s : Srt} (h : Word w s) : Toks tab (pre ++ w.cps.toList) pre.length [⟨s, pre.length, pre.length + w.cps.toList.length⟩] := by
  obtain ⟨c, h1, h2, h3⟩ := h.first
  have e : (pre ++ w.cps.toList)[pre.length]? = some c := by rw [List.getElem?_append_right (Nat.le_refl _), Nat.sub_self]; exact h1
  have et := tokAt_shift tab pre w.cps.toList
  rw [h.tk] at et
  have r : Toks tab (pre ++ w.cps.toList) (tokAt tab (pre ++ w.cps.toList) pre.length).2 [] := .done (by rw [et, List.length_append]; exact Nat.le_refl _)
  have := Toks.tok e h2 h3 r
  rw [et] at this
  exact this
theorem gap_at {pre g x : List Nat} {k c : Nat} (h : g[k]? = some c) : (pre ++ (g ++ x))[pre.length + k]? = some c := by
  rw [List.getElem?_append_right (Nat.le_add_right _ _), Nat.add_sub_cancel_left, List.getElem?_append_left (List.getElem?_eq_some_iff.mp h).1]
  exact h
theorem gap_toks {pre g : List Nat} {w : Str} {s : Srt} (hg : Gp g) (h : Word w s) : Toks tab (pre ++ (g ++ w.cps.toList)) pre.length [⟨s, pre.length + g.length, pre.length + g.length + w.cps.toList.length⟩] := by
  have hw := word_tok (pre := pre ++ g) h
  rw [List.append_assoc, List.length_append] at hw
  rcases hg with rfl | rfl | rfl | rfl | rfl
  · exact hw
  · exact .skip (c := 32) (gap_at (k := 0) rfl) (.inl rfl) hw
  · exact .skip (c := 32) (gap_at (k := 0) rfl) (.inl rfl) (.skip (c := 32) (gap_at (k := 1) rfl) (.inl rfl) hw)
  · exact .skip (c := 10) (gap_at (k := 0) rfl) (.inr rfl) hw
  · refine .skip (c := 32) (gap_at (k := 0) rfl) (.inl rfl) (.note (gap_at (k := 1) rfl) ?_)
    have er : run notNl (pre ++ (noteL ++ w.cps.toList)) (pre.length + 1) = pre.length + 9 := by
      unfold run
      have ed : (pre ++ (noteL ++ w.cps.toList)).drop (pre.length + 1) = 35 :: 32 :: 110 :: 111 :: 116 :: 101 :: 32 :: 125 :: 10 :: w.cps.toList := by
        rw [List.drop_append]
        have e1 : pre.drop (pre.length + 1) = [] := List.drop_eq_nil_of_le (by omega)
        rw [e1, Nat.add_sub_cancel_left]
        rfl
      rw [ed]
      have et : (35 :: 32 :: 110 :: 111 :: 116 :: 101 :: 32 :: 125 :: 10 :: w.cps.toList).takeWhile notNl = [35, 32, 110, 111, 116, 101, 32, 125] := by
        simp [List.takeWhile, notNl]
      rw [et]
      rfl
    rw [er]
    exact .skip (c := 10) (gap_at (k := 9) rfl) (.inr rfl) hw
theorem long_blank (a : Nat) : tab.long [a, 32] = false ∧ tab.long [a, 10] = false := by
  have h2 : ∀ x ∈ longsL, ¬ x.cps.toList[1]? = some 32 ∧ ¬ x.cps.toList[1]? = some 10 := by decide +kernel
  constructor
  · show inV (.str ⟨[a, 32].toArray⟩) (longsL.map V.str) = false
    rw [inV_str]
    exact decide_eq_false fun h => (h2 _ h).1 rfl
  · show inV (.str ⟨[a, 10].toArray⟩) (longsL.map V.str) = false
    rw [inV_str]
    exact decide_eq_false fun h => (h2 _ h).2 rfl
theorem noMelt_gap {last : Nat} {g x : List Nat} (hg : Gp g) (h0 : g = [] → NoMelt last x) : NoMelt last (g ++ x) := by
  have b32 : NoMelt last (32 :: (g.drop 1 ++ x)) := fun c r e => by
    injection e with e1 _
    subst e1
    exact ⟨fun q => absurd q.2 (by decide), (long_blank last).1⟩
  have b10 : NoMelt last (10 :: (g.drop 1 ++ x)) := fun c r e => by
    injection e with e1 _
    subst e1
    exact ⟨fun q => absurd q.2 (by decide), (long_blank last).2⟩
  rcases hg with rfl | rfl | rfl | rfl | rfl
  · exact h0 rfl
  · exact b32
  · exact b32
  · exact b10
  · exact b32
/-- a text whose tokens are the words W, and that ends with the last of them -/
structure Glued (z : Str) (W : List Tok2) : Prop where
  ex : ∃ L, Toks tab z.cps.toList 0 L ∧ Ends z.cps.toList 0 L ∧ toks2 z L = W
theorem glued_nil : Glued "" [] := by
  have e : (Str.ofString "").cps.toList = [] := by decide +kernel
  refine ⟨[], ?_, ?_, rfl⟩
  · rw [e]
    exact .done (Nat.le_refl _)
  · rw [e]
    show 0 = 0
    rfl
theorem app_cps (a b : Str) : (a ++ b).cps.toList = a.cps.toList ++ b.cps.toList := by
  show (a.cps ++ b.cps).toList = _
  rw [Array.toList_append]
theorem tok_le {cs : List Nat} {i : Nat} {L : List Tk} (h : Toks tab cs i L) (he : Ends cs i L) : ∀ t ∈ L, t.b ≤ cs.length := by
  intro t ht
  obtain ⟨k, hk, ek⟩ := List.getElem_of_mem ht
  have ek2 : L[k]? = some t := by rw [List.getElem?_eq_getElem hk, ek]
  obtain ⟨u, eu⟩ : ∃ u, L.getLast? = some u := by
    cases q : L.getLast? with
    | none => rw [List.getLast?_eq_none_iff.mp q] at ht; cases ht
    | some u => exact ⟨u, rfl⟩
  have hb : u.b = cs.length := by
    unfold Ends at he
    rw [eu] at he
    exact he
  rw [List.getLast?_eq_getElem?] at eu
  by_cases q : k = L.length - 1
  · subst q
    rw [ek2] at eu
    injection eu with eu
    rw [eu, hb]
    exact Nat.le_refl _
  · have s1 := toks_sorted h ek2 eu (by omega)
    have s2 := toks_lt h (List.mem_of_getElem? eu)
    omega
theorem glued_put {z w : Str} {g : Str} {W : List Tok2} {s : Srt} (h : Glued z W) (hg : Gp g.cps.toList) (hw : Word w s) (hm : g.cps.toList = [] → ∀ last, z.cps.toList.getLast? = some last → NoMelt last w.cps.toList) : Glued (z ++ g ++ w) (W ++ [(kindS s, w)]) := by
  obtain ⟨L, ht, he, h2⟩ := h.ex
  have ecs : (z ++ g ++ w).cps.toList = z.cps.toList ++ (g.cps.toList ++ w.cps.toList) := by rw [app_cps, app_cps, List.append_assoc]
  have hgt := gap_toks (pre := z.cps.toList) hg hw
  have hall := toks_app (x := g.cps.toList ++ w.cps.toList) ht he (fun last hl => noMelt_gap hg fun q => hm q last hl) hgt
  rw [← ecs] at hall
  refine ⟨L ++ [⟨s, z.cps.toList.length + g.cps.toList.length, z.cps.toList.length + g.cps.toList.length + w.cps.toList.length⟩], hall, ?_, ?_⟩
  · unfold Ends
    rw [List.getLast?_append]
    show z.cps.toList.length + g.cps.toList.length + w.cps.toList.length = _
    rw [ecs, List.length_append, List.length_append]
    omega
  · unfold toks2 at h2 ⊢
    rw [List.map_append, ← h2]
    congr 1
    · refine List.map_congr_left fun u hu => ?_
      obtain ⟨_, m1, m2⟩ := toks_mem ht u hu
      obtain ⟨_, m3, m4⟩ := toks_mem hall u (List.mem_append_left _ hu)
      have hb := tok_le ht he u hu
      rw [word_eq m1 m2, word_eq m3 m4, ecs, List.drop_append_of_le_length (by omega), List.take_append_of_le_length (by rw [List.length_drop]; omega)]
    · obtain ⟨_, m3, m4⟩ := toks_mem hall _ (List.mem_append_right _ (List.mem_singleton.mpr rfl))
      rw [List.map_cons, List.map_nil, word_eq m3 m4, ecs]
      have ed : (z.cps.toList ++ (g.cps.toList ++ w.cps.toList)).drop (z.cps.toList.length + g.cps.toList.length) = w.cps.toList := by
        rw [← List.append_assoc, ← List.length_append, List.drop_left]
      show [(kindS s, (⟨(((z.cps.toList ++ (g.cps.toList ++ w.cps.toList)).drop (z.cps.toList.length + g.cps.toList.length)).take (z.cps.toList.length + g.cps.toList.length + w.cps.toList.length - (z.cps.toList.length + g.cps.toList.length))).toArray⟩ : Str))] = _
      rw [ed, Nat.add_sub_cancel_left, List.take_length]
end OS

namespace OS
open PySem PySem.Spec PyProof.Rows L2
/-! ### trees are printed: with the words (in place of t_pu0) -/
theorem sz9 {n : Nat} (h : n ≤ 1000000) : n ≤ sizeLine := Nat.le_trans h (by decide)
def outD (z : Str) : List (Key × V) := [(kS "text", .str z)]
def OutAt (H : Hp) (o : Addr) (z : Str) : Prop := H o = some (.dK (outD z))
def Kept2 (d o : Addr) (H H' : Hp) : Prop := ∀ b x, b ≠ d → b ≠ o → H b = some x → H' b = some x
theorem Kept2.trans {d o : Addr} {H H1 H2 : Hp} (a : Kept2 d o H H1) (b : Kept2 d o H1 H2) : Kept2 d o H H2 := fun x y h1 h2 e => b x y h1 h2 (a x y h1 h2 e)
theorem Kept2.of {d o : Addr} {H H' : Hp} (s : Same H H') : Kept2 d o H H' := fun b x _ _ h => s b x h
theorem Kept2.refl {d o : Addr} {H : Hp} : Kept2 d o H H := fun _ _ _ _ h => h
theorem Kept.two {d o : Addr} {H H' : Hp} (s : Kept d H H') : Kept2 d o H H' := fun b x h _ e => s b x h e
theorem Kept2.rws {d o c : Addr} {z : Str} {H H' : Hp} (q : Kept2 d o H H') (hT : Tape H d c) (hO : OutAt H o z) : Rws H H' := by
  obtain ⟨ns, i, l, se, sa, t⟩ := hT
  exact ⟨fun b xs h => q b _ (ne_of h t.hd (by intro z; cases z)) (ne_of h hO (by intro z; cases z)) h, fun b xs h => q b _ (ne_of h t.hd (by intro z; cases z)) (ne_of h hO (by intro z; cases z)) h⟩
theorem out_get {H : Hp} {o : Addr} {z : Str} (h : OutAt H o z) : DGet H o (.str "text") (some (.str z)) := by
  have e : valV (outD z) (kS "text") = some (V.str z) := valV_pos rfl
  rw [← e]
  exact DGet.k (k := kS "text") h
/-- what the printing has -/
structure Ink (H : Hp) (d c o : Addr) (z : Str) (W : List Tok2) : Prop where
  T : Tape H d c
  O : OutAt H o z
  od : o ≠ d
  oc : o ≠ c
  gl : Glued z W
theorem Ink.keep {H H' : Hp} {d c o : Addr} {z : Str} {W : List Tok2} (s : Same H H') (h : Ink H d c o z W) : Ink H' d c o z W := ⟨h.T.keep s, s _ _ h.O, h.od, h.oc, h.gl⟩
theorem last_of (z : Str) : (cutS z (some (-1)) none = "" ∧ z.cps.toList.getLast? = none) ∨ ∃ c : Nat, cutS z (some (-1)) none = ⟨#[c]⟩ ∧ z.cps.toList.getLast? = some c := by
  have e1 : HT.sIx z.length 0 (some (-1)) = z.length - 1 := by
    show (if (-1 : Int) < 0 then ((-1 : Int) + (z.length : Int)).toNat else min (-1 : Int).toNat z.length) = z.length - 1
    rw [if_pos (by decide)]
    omega
  have e2 : HT.sIx z.length z.length none = z.length := rfl
  unfold cutS
  rw [e1, e2, len_cps]
  generalize z.cps.toList = l
  rcases List.eq_nil_or_concat l with rfl | ⟨r, c, rfl⟩
  · exact .inl ⟨rfl, rfl⟩
  · rw [List.concat_eq_append]
    refine .inr ⟨c, ?_, by simp⟩
    have el : (r ++ [c]).length - 1 = r.length := by simp
    have em : (r ++ [c]).length - r.length = 1 := by simp
    rw [el, em, List.drop_left]
    rfl
theorem out_put {H : Hp} {o : Addr} {z : Str} (h : OutAt H o z) (y : Str) : DPut H o (.str "text") (.str y) (upd H o (.dK (outD y))) := by
  have q : putK (outD z) (kS "text") (V.str y) = outD y := by
    have e : valV (outD z) (kS "text") = some (V.str z) := valV_pos rfl
    rw [put_there e]
    unfold outD
    rw [List.map_cons, if_pos rfl]
    rfl
  rw [← q]
  exact DPut.k (k := kS "text") h (by show 1 < sizeLine; decide)
theorem nam_in {c : Nat} (h : isName c = true) : c ∈ (Str.ofString "abcdefghijklmnopqrstuvwxyzABCDEFGHIJKLMNOPQRSTUVWXYZ0123456789_").cps.toList := by
  rw [← inS_NAM] at h
  exact of_decide_eq_true h
theorem melt_of {cc la x0 : Nat} {y : Str} {l : List Nat} (e : some cc = some la) (hy : y.cps.toList = [x0]) (hl : ∀ c r, l = c :: r → c = x0) (hb : inV (.str (⟨#[cc]⟩ ++ y)) [.str "==", .str "->"] = false) (hn : isName cc = true → ¬ isName x0 = true) : NoMelt la l := by
  injection e with e
  subst e
  intro c r ec
  have e2 := hl c r ec
  subst e2
  refine ⟨fun w => hn w.1 w.2, ?_⟩
  show inV (.str ⟨[cc, c].toArray⟩) (longsL.map V.str) = false
  rw [inV_str]
  have hb2 : inV (.str (⟨#[cc]⟩ ++ y)) ([("==" : Str), "->"].map V.str) = false := hb
  rw [inV_str] at hb2
  have es : (⟨#[cc]⟩ : Str) ++ y = ⟨[cc, c].toArray⟩ := by
    have : ((⟨#[cc]⟩ : Str) ++ y).cps.toList = [cc, c] := by
      rw [app_cps, hy]
      rfl
    cases q : (⟨#[cc]⟩ : Str) ++ y with
    | mk a =>
      rw [q] at this
      rw [← this]
  rw [es] at hb2
  have hb3 := of_decide_eq_false hb2
  refine decide_eq_false fun w => hb3 ?_
  have sub : ∀ u ∈ longsL, u ∈ [("==" : Str), "->"] := by decide +kernel
  exact sub _ w
section
variable {P : Program} {w : World} {K : PySem.W.Frag} {mg : Str → Option Value} {base : Heap}
/-- n more tokens are put -/
def More (H : Hp) (d c o : Addr) (z : Str) (W : List Tok2) (n : Nat) (PW : List Tok2 → Prop) (Q : Hp → Prop) : Prop := ∀ z' H' ws, PW ws → z'.length ≤ z.length + 30 * n → Ink H' d c o z' (W ++ ws) → Kept2 d o H H' → Q H'
def spPut : Sp := fun vs H Q _ => ∃ (d c o : Addr) (z x : Str) (W : List Tok2) (s : Srt), vs = [.ref d, .ref o, .str x] ∧ Ink H d c o z W ∧ z.length ≤ 400000 ∧ Word x s ∧ x.length ≤ 15 ∧ More H d c o z W 1 (fun ws => ws = [(kindS s, x)]) (Q .non)
theorem ok_law_put {f : Addr} {fd : FuncData} (F : Fun K "_law_put" "_law_put" s__law_put f fd) (T : Txt K mg) {f__law_take : Addr} {d__law_take : FuncData} (c__law_take : Cal P w K mg base 1 "_law_take" ["tape", "many"] spTake f__law_take d__law_take) : FnOk P w K mg base CX0 2 f fd ["tape", "out", "string"] spPut := by
  refine F.ok sc__law_put (fun vs H Q E h => ?_) (fun cdv A outer s H vs Q E hr h => ?_)
  · obtain ⟨d, c, o, z, x, W, st, rfl, _⟩ := h
    rfl
  · obtain ⟨d, c, o, z, x, W, st, rfl, I, hz, hw, hx, k⟩ := h
    obtain ⟨x0, hx0', _, _⟩ := hw.first
    have hx0 : 0 < x.length := by
      rw [len_cps]
      have := (List.getElem?_eq_some_iff.mp hx0').1
      omega
    have hxc : (cutS x none (some 1)).cps.toList = [x0] := by
      have := upTo_cps x 1
      unfold upTo at this
      rw [show ((1 : Nat) : Int) = 1 from rfl] at this
      rw [this]
      have := drop_at hx0'
      rw [List.drop_zero] at this
      rw [this]
      rfl
    have hxc2 : ∀ c r, x.cps.toList = c :: r → c = x0 := fun c r e => by
      rw [e] at hx0'
      exact Option.some.inj hx0'
    have hu := hu_of hr
    refine ⟨_, (pss_cons (ps_set (i := 3) sc__law_put.nd rfl (.inl rfl) (pe_slice sl_str (pe_dget hu (pv 1) pe_str (fun _ _ => rfl)) (po_some (pe_un un_neg pe_int)) po_none))
      (pss_cons (ps_set (i := 4) sc__law_put.nd rfl (.inl rfl) pe_str)
      (pss_cons (ps_set (i := 5) sc__law_put.nd rfl (.inl rfl) (pe_ix ix_list (pe_lst (pa_cons pe_str (pa_cons pe_str (pa_cons pe_str (pa_cons pe_str (pa_cons pe_str pa_nil)))))) (pe_op op_fdivN (pe_call c__law_take.G (hr.mono (by decide)) (by rfl) c__law_take.m c__law_take.k c__law_take.b .nil pass0 (pa_cons (pv 0) (pa_cons pe_int pa_nil))) pe_int) (fun _ _ => rfl)))
      (Evl.pss_cut (ps_set (i := 6) sc__law_put.nd rfl (.inl rfl) (pe_or (pe_and (pe_cmpR op_ne (pv 3) pe_str (nomark _)) (pe_and (pe_cmpR op_in_sign (pv 3) (pv 4) (by rfl)) (pe_one (pe_cmpR op_in_sign (pe_ix ix_str (pv 2) pe_int (fun _ _ => rfl)) (pv 4) (by rfl))))) (pe_one (pe_cmpR op_in_seq (pe_op op_add_str (pv 3) (pe_slice sl_str (pv 2) po_none (po_some pe_int))) (pe_lst (pa_cons pe_str (pa_cons pe_str pa_nil))) (by rfl)))))
      (Evl.pss_cut (ps_if (PW.pt (pw_and (pt_cmpR op_eq (pv 5) pe_str (nomark _)) (pw_and1 (pt_val (pv 6))))) (pss_one (ps_set (i := 5) sc__law_put.nd rfl (.inl rfl) pe_str)) pss_nil)
      (pss_one (ps_dput hu (pv 1) pe_str (pe_op op_add_str (pe_op op_add_str (pe_dget hu (pv 1) pe_str (fun _ _ => rfl)) (pv 5)) (pv 2)) rfl))))))), ?_⟩
    refine ⟨_, rfl, o, _, rfl, out_get I.O, ?_⟩
    have hlast := last_of z
    refine ⟨_, rfl, _, rfl, z, rfl, sz9 (by omega), ?_⟩
    have ll : (cutS z (some (-1)) none).length ≤ 1 := by
      rcases hlast with ⟨q, _⟩ | ⟨cc, q, _⟩
      · rw [q]; decide +kernel
      · rw [q]; exact Nat.le_refl _
    have hl2 : ∀ {Q1 : V → Hp → Prop} {H1 : Hp}, Q1 (.str (cutS z (some (-1)) none)) H1 → Q1 (.str (cutS z (some (-(1 : Int))) none)) H1 := fun h => h
    show _
    generalize hg : cutS z (some (-1)) none = last at hlast ll
    have hg' : cutS z (some (-(1 : Int))) none = last := hg
    refine ⟨by show 5 ≤ sizeLine; decide, fun l hl => ?_⟩
    refine ⟨_, rfl, d, c, 20, rfl, I.T.keep (same_upd hl), by decide, by decide, fun r H1 r0 r1 T1 O1 => ?_⟩
    have hlo : l ≠ o := (ne_of_none I.O hl).symm
    have I1 : Ink H1 d c o z W := ⟨T1, by show H1 o = _; rw [O1 o I.od]; exact same_upd hl _ _ I.O, I.od, I.oc, I.gl⟩
    have K1 : Kept2 d o H H1 := (Kept2.of (same_upd hl)).trans O1.kept.two
    have f0 : (0 : Int) ≤ r.fdiv 4 := fdiv_nn r0 (by decide)
    have f1 : r.fdiv 4 < 5 := by
      rw [Int.fdiv_eq_ediv_of_nonneg _ (by omega)]
      omega
    obtain ⟨y, hy, ey⟩ := pick_of (xs := [.str " ", .str "", .str "  ", .str "\n", .str " # note }\n"]) f0 f1
    obtain ⟨g, rfl, hgl, hgp, hge⟩ : ∃ g : Str, y = .str g ∧ g.length ≤ 10 ∧ Gp g.cps.toList ∧ (g.cps.toList = [] → g = "") := by
      simp only [List.mem_cons, List.not_mem_nil, or_false] at hy
      rcases hy with rfl | rfl | rfl | rfl | rfl
      · exact ⟨_, rfl, by decide +kernel, .inr (.inl (by decide +kernel)), fun e => absurd e (by decide +kernel)⟩
      · exact ⟨_, rfl, by decide +kernel, .inl (by decide +kernel), fun _ => rfl⟩
      · exact ⟨_, rfl, by decide +kernel, .inr (.inr (.inl (by decide +kernel))), fun e => absurd e (by decide +kernel)⟩
      · exact ⟨_, rfl, by decide +kernel, .inr (.inr (.inr (.inl (by decide +kernel)))), fun e => absurd e (by decide +kernel)⟩
      · exact ⟨_, rfl, by decide +kernel, .inr (.inr (.inr (.inr (by decide +kernel)))), fun e => absurd e (by decide +kernel)⟩
    refine ⟨_, _, rfl, rfl, ⟨by decide, by decide⟩, l, _, _, _, rfl, rfl, SqL.of (by rw [O1 l (I.T.ne hl).1]; exact upd_same), ey, ?_⟩
    refine ⟨fun σ H2 => ∃ (b : Bool), σ = [some (.ref d), some (.ref o), some (.str x), some (.str last), some (.str "abcdefghijklmnopqrstuvwxyzABCDEFGHIJKLMNOPQRSTUVWXYZ0123456789_"), some (.str g), some (.bl b)] ∧ (b = false → ∀ la, z.cps.toList.getLast? = some la → NoMelt la x.cps.toList) ∧ Ink H2 d c o z W ∧ Kept2 d o H H2, ?_, ?_⟩
    · refine ⟨_, rfl, rfl, _, rfl, ?_⟩
      rcases hlast with ⟨q, qz⟩ | ⟨cc, q, qz⟩
      · rw [decide_eq_true (show V.str last = V.str "" by rw [q])]
        refine iteF ⟨_, rfl, iteF ?_⟩
        refine ⟨_, rfl, _, rfl, _, rfl, x, rfl, sz9 (by omega), ?_⟩
        refine ⟨_, _, rfl, rfl, ?_, by show 2 ≤ sizeLine; decide, fun l2 hl2 => ?_⟩
        · have := cutS_len x none (some 1)
          exact sz9 (by omega)
        exact ⟨l2, _, rfl, .inl (SqL.of upd_same), rfl, rfl, _, rfl, (fun _ la e => by rw [qz] at e; cases e), I1.keep (same_upd hl2), K1.trans (Kept2.of (same_upd hl2))⟩
      · rw [decide_eq_false (show ¬ V.str last = V.str "" from fun e => by injection e with e; rw [q] at e; have e2 := congrArg Str.length e; rw [show (Str.ofString "").length = 0 by decide +kernel] at e2; exact absurd e2 (by show ¬ 1 = 0; decide))]
        refine iteT ⟨_, rfl, _, rfl, cc, _, by rw [q], rfl, _, rfl, ?_⟩
        refine ite2 (fun c1 => ?_) (fun c1 => ?_)
        · refine ⟨_, rfl, x, 0, x0, rfl, rfl, sz9 (by omega), atI_nat (j := 0) hx0', _, rfl, x0, _, rfl, rfl, _, rfl, ?_⟩
          refine ite2 (fun c2 => ?_) (fun c2 => ?_)
          · exact ⟨_, rfl, (fun w => by cases w), I1, K1⟩
          · refine ⟨_, rfl, _, rfl, _, rfl, x, rfl, sz9 (by omega), ?_⟩
            refine ⟨_, _, rfl, rfl, ?_, by show 2 ≤ sizeLine; decide, fun l2 hl2 => ?_⟩
            · have := cutS_len x none (some 1)
              exact sz9 (by omega)
            exact ⟨l2, _, rfl, .inl (SqL.of upd_same), rfl, rfl, _, rfl, (fun hb la e => melt_of (qz.symm.trans e) hxc hxc2 (by rw [q] at hb; exact hb) (fun _ => fun w => c2 (decide_eq_true (nam_in w)))), I1.keep (same_upd hl2), K1.trans (Kept2.of (same_upd hl2))⟩
        · refine ⟨_, rfl, iteF ?_⟩
          refine ⟨_, rfl, _, rfl, _, rfl, x, rfl, sz9 (by omega), ?_⟩
          refine ⟨_, _, rfl, rfl, ?_, by show 2 ≤ sizeLine; decide, fun l2 hl2 => ?_⟩
          · have := cutS_len x none (some 1)
            exact sz9 (by omega)
          exact ⟨l2, _, rfl, .inl (SqL.of upd_same), rfl, rfl, _, rfl, (fun hb la e => melt_of (qz.symm.trans e) hxc hxc2 (by rw [q] at hb; exact hb) (fun w => absurd (decide_eq_true (nam_in w)) c1)), I1.keep (same_upd hl2), K1.trans (Kept2.of (same_upd hl2))⟩
    · rintro σ H2 ⟨b, rfl, nm, I2, K2⟩
      refine ⟨fun σ H2 => ∃ (b : Bool) (g : Str), σ = [some (.ref d), some (.ref o), some (.str x), some (.str last), some (.str "abcdefghijklmnopqrstuvwxyzABCDEFGHIJKLMNOPQRSTUVWXYZ0123456789_"), some (.str g), some (.bl b)] ∧ g.length ≤ 10 ∧ Gp g.cps.toList ∧ (g.cps.toList = [] → ∀ la, z.cps.toList.getLast? = some la → NoMelt la x.cps.toList) ∧ Ink H2 d c o z W ∧ Kept2 d o H H2, ?_, ?_⟩
      · refine ⟨_, rfl, rfl, _, rfl, ?_⟩
        refine ite2 (fun c1 => ?_) (fun c1 => ?_)
        · refine ⟨_, rfl, b, rfl, ?_⟩
          cases b with
          | true => exact iteT ⟨true, " ", rfl, by decide +kernel, .inr (.inl (by decide +kernel)), (fun e => absurd e (by decide +kernel)), I2, K2⟩
          | false => exact iteF ⟨false, g, rfl, hgl, hgp, (fun _ => nm rfl), I2, K2⟩
        · exact ⟨b, g, rfl, hgl, hgp, (fun e => absurd (decide_eq_true (by rw [hge e])) c1), I2, K2⟩
      · rintro σ H3 ⟨b, g, rfl, hgl, hgp, hmelt, I3, K3⟩
        refine ⟨_, rfl, o, _, rfl, out_get I3.O, _, rfl, _, _, rfl, rfl, sz9 (by omega), _, rfl, _, _, rfl, rfl, ?_, ?_⟩
        · rw [Str.length_append]
          exact sz9 (by omega)
        refine ⟨_, rfl, o, _, rfl, out_put I3.O _, ?_⟩
        refine k (z ++ g ++ x) _ _ rfl ?_ ⟨I3.T.put ⟨I3.od, I3.oc⟩, upd_same, I3.od, I3.oc, glued_put I3.gl hgp hw hmelt⟩ (K3.trans fun b y _ h2 e => by rw [upd_ne h2]; exact e)
        rw [Str.length_append, Str.length_append]
        omega
end
end OS

namespace OS
open PySem PySem.Spec PyProof.Rows L2
/-! ### values are printed: with the words (in place of t_pu1) -/
theorem lt_units {u : Nat} (h : u + 64 < cLine) : u + 1 < cLine := by omega
def Val.hd : Val → Str
  | .num _ => "number"
  | .name _ => "name"
  | .op s _ _ => s
def rankD : List (Key × V) := [(kS "<", .int 0), (kS "==", .int 0), (kS "+", .int 1), (kS "-", .int 1), (kS "*", .int 2)]
theorem PV.mono {l d : Nat} {x : Val} {ws : List Tok2} (h : PV l d x ws) : ∀ {d' : Nat}, d ≤ d' → PV l d' x ws := by
  induction h with
  | brk _ ih =>
    intro d' h
    cases d' with
    | zero => omega
    | succ d' => exact .brk (ih (by omega))
  | num h => intro d' _; exact .num h
  | name => intro d' _; exact .name
  | cmp hs _ _ iha ihb => intro d' h; exact .cmp hs (iha h) (ihb h)
  | sum hl hs _ _ iha ihb => intro d' h; exact .sum hl hs (iha h) (ihb h)
  | prod hl _ _ iha ihb => intro d' h; exact .prod hl (iha h) (ihb h)
def rkS (s : Str) : Nat := if s = "<" ∨ s = "==" then 0 else if s = "+" ∨ s = "-" then 1 else 2
def Val.rk : Val → Nat
  | .op s _ _ => rkS s
  | _ => 3
theorem rank_of : ∀ (x : Val), VOk x → (valV (mergeK [] rankD) (kS x.hd)).getD (.int 3) = .int ((x.rk : Nat) : Int)
  | .num n, _ => by
    show (valV (mergeK [] rankD) (kS "number")).getD (.int 3) = .int ((3 : Nat) : Int)
    decide +kernel
  | .name x, _ => by
    show (valV (mergeK [] rankD) (kS "name")).getD (.int 3) = .int ((3 : Nat) : Int)
    decide +kernel
  | .op s a b, h => by
    have h := (show s = "+" ∨ s = "-" ∨ s = "*" ∨ s = "<" ∨ s = "==" from h.1)
    show (valV (mergeK [] rankD) (kS s)).getD (.int 3) = .int ((rkS s : Nat) : Int)
    rcases h with rfl | rfl | rfl | rfl | rfl <;> decide +kernel
theorem word_sign {s : Str} (h : s = "+" ∨ s = "-" ∨ s = "*" ∨ s = "<" ∨ s = "==") : Word s .sign := by
  rcases h with rfl | rfl | rfl | rfl | rfl <;> exact ⟨⟨_, rfl, by decide, by decide⟩, by decide +kernel⟩
theorem word_br : Word "(" .sign ∧ Word ")" .sign := ⟨⟨⟨_, rfl, by decide, by decide⟩, by decide +kernel⟩, ⟨⟨_, rfl, by decide, by decide⟩, by decide +kernel⟩⟩
theorem val_row {K : PySem.W.Frag} {H : Hp} : ∀ {x : Val} {v : V}, At K H x.dt v → ∃ a r, v = .ref a ∧ H a = some (.tup (.str x.hd :: r))
  | .num n, v, h => by
    unfold Val.dt at h
    rw [At] at h
    obtain ⟨p, vs, rfl, hp, hl⟩ := h
    simp only [AtL] at hl
    obtain ⟨v1, r1, rfl, h1, _⟩ := hl
    unfold At at h1
    subst h1
    exact ⟨p, _, rfl, hp⟩
  | .name n, v, h => by
    unfold Val.dt at h
    rw [At] at h
    obtain ⟨p, vs, rfl, hp, hl⟩ := h
    simp only [AtL] at hl
    obtain ⟨v1, r1, rfl, h1, _⟩ := hl
    unfold At at h1
    subst h1
    exact ⟨p, _, rfl, hp⟩
  | .op s a b, v, h => by
    unfold Val.dt at h
    rw [At] at h
    obtain ⟨p, vs, rfl, hp, hl⟩ := h
    simp only [AtL] at hl
    obtain ⟨v1, r1, rfl, h1, _⟩ := hl
    unfold At at h1
    subst h1
    exact ⟨p, _, rfl, hp⟩
section
variable {P : Program} {w : World} {K : PySem.W.Frag} {mg : Str → Option Value} {base : Heap}
def spPV (K : PySem.W.Frag) (n : Nat) : Sp := fun vs H Q _ => ∃ (d c o : Addr) (z : Str) (v : V) (x : Val) (l : Nat) (W : List Tok2), vs = [.ref d, .ref o, v, .int ((l : Nat) : Int)] ∧ x.dep < n ∧ VOk x ∧ At K H x.dt v ∧ Ink H d c o z W ∧ z.length + 30 * x.wd ≤ 400000 ∧ More H d c o z W x.wd (PV l (x.dep + 1) x) (Q .non)
theorem pv_none {f : Addr} {fd : FuncData} {ps : List Str} : FnOk P w K mg base CX0 (3+0) f fd ps (spPV K 0) := by
  have no : ∀ vs H Q E, ¬ spPV K 0 vs H Q E := fun vs H Q E h => by
    obtain ⟨_, _, _, _, _, x, _, _, h, _⟩ := h
    omega
  exact ⟨fun vs H Q E h => absurd h (no vs H Q E), fun A outer s H args us vs Q E _ _ _ _ h => absurd h (no vs H Q E)⟩
theorem wd_pos : ∀ x : Val, 3 ≤ x.wd
  | .num _ => Nat.le_refl _
  | .name _ => Nat.le_refl _
  | .op _ a b => by show 3 ≤ 3 + a.wd + b.wd; omega
theorem num_str {n : Int} (h : VOk (.num n)) : n.natAbs.log2 < 1920 ∧ Word (Str.ofString (toString n)) .number ∧ (Str.ofString (toString n)).length ≤ 15 ∧ numVal (Str.ofString (toString n)) = n := by
  have h : n = 0 ∨ n = 1 ∨ n = 2 ∨ n = 3 ∨ n = 7 ∨ n = 4294967295 := h
  rcases h with rfl | rfl | rfl | rfl | rfl | rfl
  · exact ⟨by decide +kernel, ⟨⟨48, by decide +kernel, by decide, by decide⟩, by decide +kernel⟩, by decide +kernel, by decide +kernel⟩
  · exact ⟨by decide +kernel, ⟨⟨49, by decide +kernel, by decide, by decide⟩, by decide +kernel⟩, by decide +kernel, by decide +kernel⟩
  · exact ⟨by decide +kernel, ⟨⟨50, by decide +kernel, by decide, by decide⟩, by decide +kernel⟩, by decide +kernel, by decide +kernel⟩
  · exact ⟨by decide +kernel, ⟨⟨51, by decide +kernel, by decide, by decide⟩, by decide +kernel⟩, by decide +kernel, by decide +kernel⟩
  · exact ⟨by decide +kernel, ⟨⟨55, by decide +kernel, by decide, by decide⟩, by decide +kernel⟩, by decide +kernel, by decide +kernel⟩
  · exact ⟨by decide +kernel, ⟨⟨52, by decide +kernel, by decide, by decide⟩, by decide +kernel⟩, by decide +kernel, by decide +kernel⟩
theorem op_pv {s : Str} {a b : Val} {wa wb : List Tok2} {l d la : Nat} (hs : s = "+" ∨ s = "-" ∨ s = "*" ∨ s = "<" ∨ s = "==") (hl : l ≤ (Val.op s a b).rk) (ha : PV la d a wa) (hb : PV (rkS s + 1) d b wb) (hla : (rkS s = 0 ∧ la = 1) ∨ (¬ rkS s = 0 ∧ la = rkS s)) : PV l d (.op s a b) (wa ++ ([sg s] ++ wb)) := by
  have hl : l ≤ rkS s := hl
  show PV l d (.op s a b) (wa ++ sg s :: wb)
  have r0 : rkS "<" = 0 := by decide +kernel
  have r1 : rkS "==" = 0 := by decide +kernel
  have r2 : rkS "+" = 1 := by decide +kernel
  have r3 : rkS "-" = 1 := by decide +kernel
  have r4 : rkS "*" = 2 := by decide +kernel
  rcases hs with rfl | rfl | rfl | rfl | rfl
  · rw [r2] at *
    obtain ⟨q, _⟩ | ⟨_, rfl⟩ := hla
    · omega
    · exact .sum hl (.inl rfl) ha hb
  · rw [r3] at *
    obtain ⟨q, _⟩ | ⟨_, rfl⟩ := hla
    · omega
    · exact .sum hl (.inr rfl) ha hb
  · rw [r4] at *
    obtain ⟨q, _⟩ | ⟨_, rfl⟩ := hla
    · omega
    · exact .prod hl ha hb
  · rw [r0] at *
    have : l = 0 := by omega
    subst this
    obtain ⟨_, rfl⟩ | ⟨q, _⟩ := hla
    · exact .cmp (.inl rfl) ha hb
    · exact absurd rfl q
  · rw [r1] at *
    have : l = 0 := by omega
    subst this
    obtain ⟨_, rfl⟩ | ⟨q, _⟩ := hla
    · exact .cmp (.inr rfl) ha hb
    · exact absurd rfl q
theorem ok_put_value {f : Addr} {fd : FuncData} (F : Fun K "_law_put_value" "_law_put_value" s__law_put_value f fd) (T : Txt K mg) (n : Nat) {f__law_take : Addr} {d__law_take : FuncData} (c__law_take : Cal P w K mg base 1 "_law_take" ["tape", "many"] spTake f__law_take d__law_take) {f__law_put : Addr} {d__law_put : FuncData} (c__law_put : Cal P w K mg base 2 "_law_put" ["tape", "out", "string"] spPut f__law_put d__law_put) {f__law_put_value : Addr} {d__law_put_value : FuncData} (c__law_put_value : Cal P w K mg base (3+n) "_law_put_value" ["tape", "out", "tree", "least"] (spPV K n) f__law_put_value d__law_put_value) : FnOk P w K mg base CX0 (3+n+1) f fd ["tape", "out", "tree", "least"] (spPV K (n+1)) := by
  refine F.ok sc__law_put_value (fun vs H Q E h => ?_) (fun cdv A outer s H vs Q E hr h => ?_)
  · obtain ⟨d, c, o, z, v, x, l, W, rfl, _⟩ := h
    rfl
  · obtain ⟨d, c, o, z, v, x, l, W, rfl, hd, hx, hat, I, hz, k⟩ := h
    have hu := hu_of hr
    obtain ⟨pa, rw1, rfl, hpa⟩ := val_row hat
    have erk := rank_of x hx
    have wp := wd_pos x
    refine ⟨_, (pss_cons (ps_set (i := 4) sc__law_put_value.nd rfl (.inl rfl) (pe_dget2 (lt_units hr.units) (pe_disp (pps_cons pe_str pe_int (pps_cons pe_str pe_int (pps_cons pe_str pe_int (pps_cons pe_str pe_int (pps_cons pe_str pe_int pps_nil))))) (by rfl) (by rfl) (fun z => by cases z) (by decide)) (pe_ix ix_tup (pv 2) pe_int (fun _ _ => rfl)) pe_int ⟨rfl, rfl, rfl, rfl⟩))
      (Evl.pss_cut (ps_set (i := 5) sc__law_put_value.nd rfl (.inl rfl) (pe_or (pe_cmpR op_lt (pv 4) (pv 3) (nomark _)) (pe_one (pe_cmpR op_eq (pe_call c__law_take.G (hr.mono (by omega)) (by rfl) c__law_take.m c__law_take.k c__law_take.b .nil pass0 (pa_cons (pv 0) (pa_cons pe_int pa_nil))) pe_int (nomark _)))))
      (Evl.pss_cut (ps_if (pt_val (pv 5)) (pss_one (ps_expr (pe_call c__law_put.G (hr.mono (by omega)) (by rfl) c__law_put.m c__law_put.k c__law_put.b .nil pass0 (pa_cons (pv 0) (pa_cons (pv 1) (pa_cons pe_str pa_nil)))))) pss_nil)
      (Evl.pss_cut (ps_if (pt_cmpR op_eq (pv 4) pe_int (nomark _)) (pss_one (ps_expr (pe_call c__law_put.G (hr.mono (by omega)) (by rfl) c__law_put.m c__law_put.k c__law_put.b .nil pass0 (pa_cons (pv 0) (pa_cons (pv 1) (pa_cons (pe_callTy (CallR.or call_str_int SkE.call_str_str) (by rfl) T.str (by decide +kernel) (pa_cons (pe_ix ix_tup (pv 2) pe_int (fun _ _ => rfl)) pa_nil)) pa_nil)))))) (pss_cons (ps_expr (pe_call c__law_put_value.G (hr.mono (by omega)) (by rfl) c__law_put_value.m c__law_put_value.k c__law_put_value.b .nil pass0 (pa_cons (pv 0) (pa_cons (pv 1) (pa_cons (pe_ix ix_tup (pv 2) pe_int (fun _ _ => rfl)) (pa_cons (pe_ifExp (pt_cmpR op_eq (pv 4) pe_int (nomark _)) pe_int (pv 4)) pa_nil))))))
      (pss_cons (ps_expr (pe_call c__law_put.G (hr.mono (by omega)) (by rfl) c__law_put.m c__law_put.k c__law_put.b .nil pass0 (pa_cons (pv 0) (pa_cons (pv 1) (pa_cons (pe_ix ix_tup (pv 2) pe_int (fun _ _ => rfl)) pa_nil)))))
      (pss_one (ps_expr (pe_call c__law_put_value.G (hr.mono (by omega)) (by rfl) c__law_put_value.m c__law_put_value.k c__law_put_value.b .nil pass0 (pa_cons (pv 0) (pa_cons (pv 1) (pa_cons (pe_ix ix_tup (pv 2) pe_int (fun _ _ => rfl)) (pa_cons (pe_op op_add (pv 4) pe_int) pa_nil))))))))))
      (pss_one (ps_if (pt_val (pv 5)) (pss_one (ps_expr (pe_call c__law_put.G (hr.mono (by omega)) (by rfl) c__law_put.m c__law_put.k c__law_put.b .nil pass0 (pa_cons (pv 0) (pa_cons (pv 1) (pa_cons pe_str pa_nil)))))) pss_nil)))))), ?_⟩
    intro p hp
    have sp := same_upd (o := .dK []) hp
    refine ⟨upd_same, rankD, rfl, by decide, p, rfl, .inl ⟨_, .inl upd_same⟩, ?_⟩
    have s1 : Same H (upd (upd H p (.dK [])) p (.dK (mergeK [] rankD))) := fun b x e => by rw [upd_ne (ne_of_none e hp), upd_ne (ne_of_none e hp)]; exact e
    refine ⟨_, rfl, pa, _, _, _, rfl, rfl, SqT.of (s1 _ _ hpa), atI_nat (j := 0) rfl, _, DGet.k (k := kS x.hd) upd_same, ?_⟩
    rw [erk]
    generalize hrk : ((x.rk : Nat) : Int) = rk
    refine ⟨fun σ H1 => ∃ b : Bool, σ = [some (.ref d), some (.ref o), some (.ref pa), some (.int ((l : Nat) : Int)), some (.int rk), some (.bl b)] ∧ (b = false → l ≤ x.rk) ∧ Ink H1 d c o z W ∧ Kept2 d o H H1, ?_, ?_⟩
    · refine ⟨_, rfl, _, rfl, _, _, rfl, rfl, _, rfl, ?_⟩
      refine ite2 (fun c1 => ?_) (fun c1 => ?_)
      · exact ⟨true, rfl, (fun q => by cases q), I.keep s1, .of s1⟩
      · refine ⟨_, rfl, d, c, 6, rfl, I.T.keep s1, by decide, by decide, fun r H1 r0 r1 T1 O1 => ⟨rfl, _, rfl, (fun _ => by have c1 : ¬ rk < (l : Int) := fun q => c1 (decide_eq_true q); omega), ⟨T1, ?_, I.od, I.oc, I.gl⟩, (Kept2.of s1).trans O1.kept.two⟩⟩
        show H1 o = _
        rw [O1 o I.od]
        exact s1 _ _ I.O
    rintro σ H1 ⟨b, rfl, hbl, I1, K1⟩
    refine ⟨fun σ H2 => ∃ z2 : Str, σ = [some (.ref d), some (.ref o), some (.ref pa), some (.int ((l : Nat) : Int)), some (.int rk), some (.bl b)] ∧ z2.length ≤ z.length + 30 ∧ Ink H2 d c o z2 (W ++ (if b = true then [sg "("] else [])) ∧ Kept2 d o H H2, ?_, ?_⟩
    · refine ⟨_, rfl, b, rfl, ?_⟩
      cases b with
      | true => exact iteT ⟨_, rfl, _, rfl, d, c, o, z, "(", W, .sign, rfl, I1, by omega, word_br.1, by decide +kernel, fun z2 H2 ws hw l2 I2 K2 => ⟨z2, rfl, by omega, by subst hw; exact I2, K1.trans K2⟩⟩
      | false => exact iteF ⟨z, rfl, by omega, by rw [if_neg Bool.false_ne_true, List.append_nil]; exact I1, K1⟩
    rintro σ H2 ⟨z2, rfl, l2, I2, K2⟩
    generalize hW2 : W ++ (if b = true then [sg "("] else []) = W2 at I2
    have hat2 := At.rws (K2.rws I.T I.O) hat
    refine ⟨fun σ H3 => ∃ z3 : Str, σ = [some (.ref d), some (.ref o), some (.ref pa), some (.int ((l : Nat) : Int)), some (.int rk), some (.bl b)] ∧ z3.length ≤ z.length + 30 * (x.wd - 1) ∧ (∃ wc, (∀ l' d', l' ≤ x.rk → x.dep ≤ d' → PV l' d' x wc) ∧ Ink H3 d c o z3 (W2 ++ wc)) ∧ Kept2 d o H H3, ?_, ?_⟩
    · refine ⟨_, rfl, rfl, _, rfl, ?_⟩
      cases x with
      | num nn =>
        have q : rk = 3 := hrk.symm
        rw [decide_eq_true (show V.int rk = V.int 3 by rw [q])]
        obtain ⟨m1, m2, m3, m4⟩ := num_str hx
        unfold Val.dt at hat2
        rw [At] at hat2
        obtain ⟨p2, vs, ep, hp2, hl2⟩ := hat2
        cases ep
        simp only [AtL] at hl2
        obtain ⟨v1, r1, rfl, h1, v2, r2, rfl, h2, rfl⟩ := hl2
        unfold At at h1 h2
        subst h1
        subst h2
        refine iteT ⟨_, rfl, _, rfl, _, rfl, pa, _, _, _, rfl, rfl, SqT.of hp2, atI_nat (j := 1) rfl, .inl ⟨nn, rfl, m1, ?_⟩⟩
        refine ⟨d, c, o, z2, _, W2, .number, rfl, I2, by omega, m2, m3, fun z3 H3 ws hw l3 I3 K3 => ⟨z3, rfl, ?_, ⟨ws, fun l' d' _ _ => by subst hw; exact .num m4, I3⟩, K2.trans K3⟩⟩
        show z3.length ≤ z.length + 30 * 2
        omega
      | name xn =>
        have q : rk = 3 := hrk.symm
        rw [decide_eq_true (show V.int rk = V.int 3 by rw [q])]
        unfold Val.dt at hat2
        rw [At] at hat2
        obtain ⟨p2, vs, ep, hp2, hl2⟩ := hat2
        cases ep
        simp only [AtL] at hl2
        obtain ⟨v1, r1, rfl, h1, v2, r2, rfl, h2, rfl⟩ := hl2
        unfold At at h1 h2
        subst h1
        subst h2
        have hxn : Word xn .name ∧ xn.length ≤ 15 := by
          have hx : xn = "n" ∨ xn = "m" ∨ xn = "k" := hx
          rcases hx with rfl | rfl | rfl <;> exact ⟨⟨⟨_, rfl, by decide, by decide⟩, by decide +kernel⟩, by decide +kernel⟩
        refine iteT ⟨_, rfl, _, rfl, _, rfl, pa, _, _, _, rfl, rfl, SqT.of hp2, atI_nat (j := 1) rfl, .inr ⟨xn, rfl, ?_⟩⟩
        refine ⟨d, c, o, z2, _, W2, .name, rfl, I2, by omega, hxn.1, hxn.2, fun z3 H3 ws hw l3 I3 K3 => ⟨z3, rfl, ?_, ⟨ws, fun l' d' _ _ => by subst hw; exact .name, I3⟩, K2.trans K3⟩⟩
        show z3.length ≤ z.length + 30 * 2
        omega
      | op sg' xa xb =>
        have hr2 : rkS sg' ≤ 2 := by unfold rkS; repeat (first | omega | split)
        have hrk : ((rkS sg' : Nat) : Int) = rk := hrk
        have q : ¬ rk = 3 := fun e => by omega
        rw [decide_eq_false (show ¬ V.int rk = V.int 3 from fun e => by injection e with e; exact q e)]
        obtain ⟨hs, ha, hb⟩ : (sg' = "+" ∨ sg' = "-" ∨ sg' = "*" ∨ sg' = "<" ∨ sg' = "==") ∧ VOk xa ∧ VOk xb := hx
        have hsl : sg'.length ≤ 15 := by
          rcases hs with rfl | rfl | rfl | rfl | rfl <;> decide +kernel
        have hd : max xa.dep xb.dep + 1 < n + 1 := hd
        have hz : z.length + 30 * (3 + xa.wd + xb.wd) ≤ 400000 := hz
        unfold Val.dt at hat2
        rw [At] at hat2
        obtain ⟨p2, vs, ep, hp2, hl2⟩ := hat2
        cases ep
        simp only [AtL] at hl2
        obtain ⟨v1, r1, rfl, h1, v2, r2, rfl, h2, v3, r3, rfl, h3, rfl⟩ := hl2
        unfold At at h1
        subst h1
        refine iteF ⟨_, rfl, _, rfl, _, rfl, pa, _, _, _, rfl, rfl, SqT.of hp2, atI_nat (j := 1) rfl, ?_⟩
        refine ⟨_, rfl, rfl, _, rfl, ?_⟩
        refine ite2 (fun c5 => ?_) (fun c5 => ?_)
        · have e5 : rk = 0 := by
            have := of_decide_eq_true c5
            injection this
          refine ⟨d, c, o, z2, v2, xa, 1, W2, rfl, by omega, ha, h2, I2, by omega, fun z4 H4 ws4 hw4 l4 I4 K4 => ?_⟩
          have w24 := K4.rws I2.T I2.O
          refine ⟨_, rfl, _, rfl, _, rfl, pa, _, _, _, rfl, rfl, SqT.of (w24.1 _ _ hp2), atI_nat (j := 0) rfl, d, c, o, z4, sg', _, .sign, rfl, I4, by omega, word_sign hs, hsl, fun z5 H5 ws5 hw5 l5 I5 K5 => ?_⟩
          have w25 := w24.trans (K5.rws I4.T I4.O)
          refine ⟨_, rfl, _, rfl, _, rfl, pa, _, _, _, rfl, rfl, SqT.of (w25.1 _ _ hp2), atI_nat (j := 2) rfl, _, rfl, _, _, rfl, rfl, d, c, o, z5, v3, xb, rkS sg' + 1, _, ?_, by omega, hb, At.rws w25 h3, I5, by omega, fun z6 H6 ws6 hw6 l6 I6 K6 => ⟨z6, rfl, ?_, ⟨ws4 ++ (ws5 ++ ws6), fun l' d' hl' hd' => ?_, by rw [← List.append_assoc, ← List.append_assoc]; exact I6⟩, ((K2.trans K4).trans K5).trans K6⟩⟩
          · rw [← hrk]; rfl
          · have e9 : (Val.op sg' xa xb).wd - 1 = 2 + xa.wd + xb.wd := by show 3 + xa.wd + xb.wd - 1 = _; omega
            rw [e9]
            omega
          · subst hw5
            have hd' : max xa.dep xb.dep + 1 ≤ d' := hd'
            exact op_pv hs hl' (hw4.mono (by omega)) (hw6.mono (by omega)) (.inl ⟨by omega, rfl⟩)
        · have e5 : ¬ rk = 0 := fun q => c5 (decide_eq_true (by rw [q]))
          refine ⟨_, rfl, d, c, o, z2, v2, xa, rkS sg', W2, ?_, by omega, ha, h2, I2, by omega, fun z4 H4 ws4 hw4 l4 I4 K4 => ?_⟩
          · rw [← hrk]; rfl
          have w24 := K4.rws I2.T I2.O
          refine ⟨_, rfl, _, rfl, _, rfl, pa, _, _, _, rfl, rfl, SqT.of (w24.1 _ _ hp2), atI_nat (j := 0) rfl, d, c, o, z4, sg', _, .sign, rfl, I4, by omega, word_sign hs, hsl, fun z5 H5 ws5 hw5 l5 I5 K5 => ?_⟩
          have w25 := w24.trans (K5.rws I4.T I4.O)
          refine ⟨_, rfl, _, rfl, _, rfl, pa, _, _, _, rfl, rfl, SqT.of (w25.1 _ _ hp2), atI_nat (j := 2) rfl, _, rfl, _, _, rfl, rfl, d, c, o, z5, v3, xb, rkS sg' + 1, _, ?_, by omega, hb, At.rws w25 h3, I5, by omega, fun z6 H6 ws6 hw6 l6 I6 K6 => ⟨z6, rfl, ?_, ⟨ws4 ++ (ws5 ++ ws6), fun l' d' hl' hd' => ?_, by rw [← List.append_assoc, ← List.append_assoc]; exact I6⟩, ((K2.trans K4).trans K5).trans K6⟩⟩
          · rw [← hrk]; rfl
          · have e9 : (Val.op sg' xa xb).wd - 1 = 2 + xa.wd + xb.wd := by show 3 + xa.wd + xb.wd - 1 = _; omega
            rw [e9]
            omega
          · subst hw5
            have hd' : max xa.dep xb.dep + 1 ≤ d' := hd'
            exact op_pv hs hl' (hw4.mono (by omega)) (hw6.mono (by omega)) (.inr ⟨by omega, rfl⟩)
    rintro σ H3 ⟨z3, rfl, l3, ⟨wc, hwc, I3⟩, K3⟩
    refine ⟨_, rfl, b, rfl, ?_⟩
    cases b with
    | true =>
      refine iteT ⟨_, rfl, _, rfl, d, c, o, z3, ")", _, .sign, rfl, I3, by omega, word_br.2, by decide +kernel, fun z4 H4 ws4 hw4 l4 I4 K4 => k z4 H4 (sg "(" :: (wc ++ [sg ")"])) (.brk (hwc 0 _ (Nat.zero_le _) (Nat.le_refl _))) (by omega) ?_ (K3.trans K4)⟩
      subst hw4
      rw [← hW2, if_pos rfl] at I4
      have e : W ++ (sg "(" :: (wc ++ [sg ")"])) = W ++ [sg "("] ++ wc ++ [sg ")"] := by simp
      rw [e]
      exact I4
    | false =>
      rw [← hW2, if_neg Bool.false_ne_true, List.append_nil] at I3
      exact iteF (k z3 H3 wc (hwc l _ (hbl rfl) (Nat.le_succ _)) (by omega) I3 K3)
end
section
variable {P : Program} {w : World} {K : PySem.W.Frag} {mg : Str → Option Value} {base : Heap}
theorem pv_all (T : Txt K mg) {f__law_take : Addr} {d__law_take : FuncData} (c__law_take : Cal P w K mg base 1 "_law_take" ["tape", "many"] spTake f__law_take d__law_take) {f__law_put : Addr} {d__law_put : FuncData} (c__law_put : Cal P w K mg base 2 "_law_put" ["tape", "out", "string"] spPut f__law_put d__law_put) {f1 : Addr} {d1 : FuncData}
    (F1 : Fun K "_law_put_value" "_law_put_value" s__law_put_value f1 d1) (b1 : Binds K d1 ["tape", "out", "tree", "least"] []) (m1 : mg "_law_put_value" = some (.ref f1)) :
    ∀ n : Nat, FnOk P w K mg base CX0 (3+n) f1 d1 ["tape", "out", "tree", "least"] (spPV K n)
  | 0 => pv_none
  | n + 1 => by
    have ih := pv_all T c__law_take c__law_put F1 b1 m1 n
    exact ok_put_value F1 T n c__law_take c__law_put ⟨ih, b1, F1.kp, m1⟩
end
end OS

namespace OS
open PySem PySem.Spec PyProof.Rows L2
/-! ### rows of texts, names, with the words -/
section
variable {P : Program} {w : World} {K : PySem.W.Frag} {mg : Str → Option Value} {base : Heap}
def wd2 (u : Srt × Str) : Tok2 := (kindS u.1, u.2)
def spPA : Sp := fun vs H Q _ => ∃ (d c o l : Addr) (z : Str) (W : List Tok2) (ss : List (Srt × Str)), vs = [.ref d, .ref o, .ref l] ∧ Ink H d c o z W ∧ H l = some (.lst (ss.map fun u => V.str u.2)) ∧ z.length + 30 * ss.length ≤ 400000 ∧
  (∀ u ∈ ss, Word u.2 u.1 ∧ u.2.length ≤ 15) ∧ More H d c o z W ss.length (fun ws => ws = ss.map wd2) (Q .non)
theorem ok_put_all {f : Addr} {fd : FuncData} (F : Fun K "_law_put_all" "_law_put_all" s__law_put_all f fd) (T : Txt K mg) {f__law_put : Addr} {d__law_put : FuncData} (c__law_put : Cal P w K mg base 2 "_law_put" ["tape", "out", "string"] spPut f__law_put d__law_put) : FnOk P w K mg base CX0 3 f fd ["tape", "out", "strings"] spPA := by
  refine F.ok sc__law_put_all (fun vs H Q E h => ?_) (fun cdv A outer s H vs Q E hr h => ?_)
  · obtain ⟨d, c, o, l, z, W, ss, rfl, _⟩ := h
    rfl
  · obtain ⟨d, c, o, l, z, W, ss, rfl, I, hl, hz, hx, k⟩ := h
    refine ⟨_, (pss_one (ps_for PassesOwn.never rfl (pi_list (pv 2)) (pg_name (i := 3) sc__law_put_all.nd rfl (.inl rfl)) (pss_one (ps_expr (pe_call c__law_put.G (hr.mono (by decide)) (by rfl) c__law_put.m c__law_put.k c__law_put.b .nil pass0 (pa_cons (pv 0) (pa_cons (pv 1) (pa_cons (pv 3) pa_nil)))))))), ?_⟩
    refine ⟨_, rfl, l, rfl, ⟨_, SqL.of hl⟩, for_list (K := K) (a := l) (xs := ss.map fun u => V.str u.2) (fun i σ H' => ∃ (y : Option V) (z' : Str), σ = [some (.ref d), some (.ref o), some (.ref l), y] ∧ z'.length ≤ z.length + 30 * i ∧ Ink H' d c o z' (W ++ (ss.take i).map wd2) ∧ Kept2 d o H H')
      ⟨none, z, rfl, by omega, by rw [List.take_zero, List.map_nil, List.append_nil]; exact I, .refl⟩ (fun i σ H' _ ⟨_, _, _, _, _, q⟩ => SqL.of ((q.rws I.T I.O).2 _ _ hl)) ?_ ?_⟩
    · rintro i x H2 H' hi ⟨y, z', rfl, l', I', K'⟩
      rw [List.getElem?_map] at hi
      obtain ⟨u, ex, rfl⟩ : ∃ q, ss[i]? = some q ∧ x = .str q.2 := by
        cases e : ss[i]? with
        | none => rw [e] at hi; cases hi
        | some q => rw [e] at hi; exact ⟨q, rfl, (Option.some.inj hi).symm⟩
      have hm : u ∈ ss := List.mem_of_getElem? ex
      have hil : i < ss.length := (List.getElem?_eq_some_iff.mp ex).1
      have et : ss.take (i + 1) = ss.take i ++ [u] := by
        rw [List.take_add_one, ex]
        rfl
      refine ⟨_, rfl, _, rfl, _, rfl, d, c, o, z', u.2, _, u.1, rfl, I', by omega, (hx _ hm).1, (hx _ hm).2, fun z2 H2 ws hw l2 I2 K2 => ⟨_, z2, rfl, by omega, ?_, K'.trans K2⟩⟩
      subst hw
      rw [et, List.map_append, ← List.append_assoc]
      exact I2
    · rintro σ H' ⟨y, z', rfl, l', I', K'⟩
      rw [List.length_map] at l' I'
      rw [List.take_length] at I'
      exact k z' H' _ rfl l' I' K'
theorem commasL_snoc : ∀ (r : List Str) (x : Str), commasL (r ++ [x]) = commasL r ++ [sg ",", nmT x]
  | [], x => rfl
  | y :: r, x => by
    show sg "," :: nmT y :: commasL (r ++ [x]) = sg "," :: nmT y :: (commasL r ++ [sg ",", nmT x])
    rw [commasL_snoc r x]
theorem commas_snoc {l : List Str} (x : Str) (h : l ≠ []) : commas (l ++ [x]) = commas l ++ [sg ",", nmT x] := by
  cases l with
  | nil => exact absurd rfl h
  | cons y r =>
    show nmT y :: commasL (r ++ [x]) = nmT y :: (commasL r ++ [sg ",", nmT x])
    rw [commasL_snoc]
theorem nm_word {x : Str} (h : Nm x) : Word x .name ∧ x.length ≤ 15 := by
  unfold Nm at h
  rcases h with rfl | rfl | rfl | rfl | rfl | rfl | rfl | rfl | rfl | rfl | rfl | rfl | rfl | rfl | rfl <;> exact ⟨⟨⟨_, rfl, by decide, by decide⟩, by decide +kernel⟩, by decide +kernel⟩
theorem word_comma : Word "," .sign ∧ ("," : Str).length ≤ 15 := ⟨⟨⟨_, rfl, by decide, by decide⟩, by decide +kernel⟩, by decide +kernel⟩
def spPN : Sp := fun vs H Q _ => ∃ (d c o l : Addr) (z : Str) (W : List Tok2) (xs : List Str), vs = [.ref d, .ref o, .ref l] ∧ Ink H d c o z W ∧ H l = some (.tup (xs.map V.str)) ∧ z.length + 60 * xs.length ≤ 400000 ∧ (∀ x ∈ xs, Nm x) ∧ xs.length ≤ 100000 ∧ More H d c o z W (2 * xs.length) (fun ws => ws = commas xs) (Q .non)
theorem ok_put_names {f : Addr} {fd : FuncData} (F : Fun K "_law_put_names" "_law_put_names" s__law_put_names f fd) (T : Txt K mg) {f__law_put_all : Addr} {d__law_put_all : FuncData} (c__law_put_all : Cal P w K mg base 3 "_law_put_all" ["tape", "out", "strings"] spPA f__law_put_all d__law_put_all) : FnOk P w K mg base CX0 4 f fd ["tape", "out", "names"] spPN := by
  refine F.ok sc__law_put_names (fun vs H Q E h => ?_) (fun cdv A outer s H vs Q E hr h => ?_)
  · obtain ⟨d, c, o, l, z, W, xs, rfl, _⟩ := h
    rfl
  · obtain ⟨d, c, o, l, z, W, xs, rfl, I, hl, hz, hx, hn, k⟩ := h
    refine ⟨_, (pss_one (ps_for PassesOwn.never rfl (pi_range1 (by rfl) T.range (pa_cons (pe_callB call_len_seq (by rfl) T.len PySem.boot_len (pa_cons (pv 2) pa_nil)) pa_nil)) (pg_name (i := 3) sc__law_put_names.nd rfl (.inl rfl)) (pss_one (ps_expr (pe_call c__law_put_all.G (hr.mono (by decide)) (by rfl) c__law_put_all.m c__law_put_all.k c__law_put_all.b .nil pass0 (pa_cons (pv 0) (pa_cons (pv 1) (pa_cons (pe_ifExp (pt_cmpR op_eq (pv 3) pe_int (nomark _)) (pe_lst (pa_cons (pe_ix ix_tup (pv 2) (pv 3) (fun _ _ => rfl)) pa_nil)) (pe_lst (pa_cons pe_str (pa_cons (pe_ix ix_tup (pv 2) (pv 3) (fun _ _ => rfl)) pa_nil)))) pa_nil)))))))), ?_⟩
    refine ⟨_, rfl, l, _, rfl, .inr (SqT.of hl), ?_⟩
    rw [List.length_map]
    refine ⟨_, rfl, by omega, by omega, ?_⟩
    refine for_range (n := xs.length) (fun i σ H' => ∃ (y : Option V) (z' : Str), σ = [some (.ref d), some (.ref o), some (.ref l), y] ∧ z'.length ≤ z.length + 60 * i ∧ Ink H' d c o z' (W ++ commas (xs.take i)) ∧ Kept2 d o H H')
      ⟨none, z, rfl, by omega, by rw [List.take_zero]; show Ink H d c o z (W ++ []); rw [List.append_nil]; exact I, .refl⟩ ?_ ?_
    · rintro i σ H' hi ⟨y, z', rfl, l', I', K'⟩
      have hl' := (K'.rws I.T I.O).1 _ _ hl
      have e := List.getElem?_eq_getElem hi
      have hm : xs[i] ∈ xs := List.getElem_mem hi
      have nm := nm_word (hx _ hm)
      have et : xs.take (i + 1) = xs.take i ++ [xs[i]] := by
        rw [List.take_add_one, e]
        rfl
      have at1 : atI (xs.map V.str) ((0 : Int) + (i : Int)) = some (.str xs[i]) := by
        rw [Int.zero_add]
        exact atI_nat (by rw [List.getElem?_map, e]; rfl)
      refine ⟨_, rfl, _, rfl, _, rfl, rfl, _, rfl, ?_⟩
      refine ite2 (fun c0 => ?_) (fun c0 => ?_)
      · have i0 : i = 0 := by
          have := of_decide_eq_true c0
          injection this with this
          omega
        refine ⟨_, rfl, _, rfl, l, _, _, _, rfl, rfl, SqT.of hl', at1, by show 1 ≤ sizeLine; decide, fun q hq => ?_⟩
        have sq := same_upd (o := .lst [.str xs[i]]) hq
        refine ⟨d, c, o, q, z', _, [(.name, xs[i])], rfl, I'.keep sq, upd_same, by show z'.length + 30 ≤ _; omega, fun x h => by rw [List.mem_singleton.mp h]; exact nm, fun z2 H2 ws hw l2 I2 K2 => ⟨_, z2, rfl, by have l2 : z2.length ≤ z'.length + 30 := l2; omega, ?_, (K'.trans (.of sq)).trans K2⟩⟩
        subst hw
        rw [et]
        have e0 : xs.take i = [] := by rw [i0]; rfl
        rw [e0] at I2 ⊢
        exact (List.append_nil W ▸ I2)
      · have i0 : ¬ i = 0 := fun q => c0 (decide_eq_true (by rw [q]; rfl))
        refine ⟨_, rfl, _, rfl, l, _, _, _, rfl, rfl, SqT.of hl', at1, by show 2 ≤ sizeLine; decide, fun q hq => ?_⟩
        have sq := same_upd (o := .lst [.str ",", .str xs[i]]) hq
        refine ⟨d, c, o, q, z', _, [(.sign, ","), (.name, xs[i])], rfl, I'.keep sq, upd_same, by show z'.length + 60 ≤ _; omega, fun x h => ?_, fun z2 H2 ws hw l2 I2 K2 => ⟨_, z2, rfl, by have l2 : z2.length ≤ z'.length + 60 := l2; omega, ?_, (K'.trans (.of sq)).trans K2⟩⟩
        · rcases List.mem_cons.mp h with h | h
          · rw [h]; exact word_comma
          · rw [List.mem_singleton.mp h]; exact nm
        · subst hw
          have h0 : xs.take i ≠ [] := fun q => by
            have := congrArg List.length q
            rw [List.length_take] at this
            have : min i xs.length = 0 := this
            omega
          rw [et, commas_snoc _ h0, ← List.append_assoc]
          exact I2
    · rintro σ H' ⟨y, z', rfl, l', I', K'⟩
      rw [List.take_length] at I'
      exact k z' H' _ rfl (by omega) I' K'
end
end OS

namespace OS
open PySem PySem.Spec PyProof.Rows L2
/-! ### blocks are printed: with the words (in place of t_pu2) -/
section
variable {P : Program} {w : World} {K : PySem.W.Frag} {mg : Str → Option Value} {base : Heap}
def spPB (K : PySem.W.Frag) (n : Nat) : Sp := fun vs H Q _ => ∃ (d c o : Addr) (z : Str) (v : V) (x : List Stm) (W : List Tok2), vs = [.ref d, .ref o, v] ∧ blkNst x < n ∧ blkOk x ∧ At K H (blkDt x) v ∧ Ink H d c o z W ∧ z.length + 30 * (2 + blkWd x) ≤ 400000 ∧ More H d c o z W (2 + blkWd x) (fun ws => ∃ wb, PB x wb ∧ ws = sg "{" :: (wb ++ [sg "}"])) (Q .non)
theorem pb_none {f : Addr} {fd : FuncData} {ps : List Str} : FnOk P w K mg base CX0 (7+0) f fd ps (spPB K 0) := by
  have no : ∀ vs H Q E, ¬ spPB K 0 vs H Q E := fun vs H Q E h => by
    obtain ⟨_, _, _, _, _, x, _, h, _⟩ := h
    omega
  exact ⟨fun vs H Q E h => absurd h (no vs H Q E), fun A outer s H args us vs Q E _ _ _ _ h => absurd h (no vs H Q E)⟩
theorem blk_at : ∀ {b : List Stm} {i : Nat} {d : Dt}, (blkDts b)[i]? = some d → ∃ s, b[i]? = some s ∧ d = s.dt
  | [], i, d, h => by simp [blkDts] at h
  | s :: r, 0, d, h => by
    unfold blkDts at h
    exact ⟨s, rfl, (Option.some.inj h).symm⟩
  | s :: r, i + 1, d, h => by
    unfold blkDts at h
    exact blk_at (b := r) (i := i) h
theorem blkWd_take : ∀ {b : List Stm} {i : Nat} {s : Stm}, b[i]? = some s → blkWd (b.take (i + 1)) = blkWd (b.take i) + s.wd ∧ blkWd (b.take (i + 1)) ≤ blkWd b
  | [], i, s, h => by simp at h
  | x :: r, 0, s, h => by
    have e : x = s := Option.some.inj h
    subst e
    show x.wd + 0 = 0 + x.wd ∧ x.wd + 0 ≤ x.wd + blkWd r
    exact ⟨by omega, by omega⟩
  | x :: r, i + 1, s, h => by
    obtain ⟨h1, h2⟩ := blkWd_take (b := r) (i := i) h
    show x.wd + blkWd (r.take (i + 1)) = x.wd + blkWd (r.take i) + s.wd ∧ x.wd + blkWd (r.take (i + 1)) ≤ x.wd + blkWd r
    exact ⟨by omega, by omega⟩
theorem blk_mem : ∀ {b : List Stm} {i : Nat} {s : Stm}, b[i]? = some s → blkOk b → SOk s ∧ s.nst ≤ blkNst b
  | [], i, s, h, _ => by simp at h
  | x :: r, 0, s, h, ho => by
    have e : x = s := Option.some.inj h
    subst e
    have ho : SOk x ∧ blkOk r := ho
    exact ⟨ho.1, Nat.le_max_left _ _⟩
  | x :: r, i + 1, s, h, ho => by
    have ho : SOk x ∧ blkOk r := ho
    obtain ⟨h1, h2⟩ := blk_mem (b := r) (i := i) h ho.2
    exact ⟨h1, Nat.le_trans h2 (Nat.le_max_right _ _)⟩
theorem okn2 : ∀ u ∈ ([] : List (Srt × Str)), Word u.2 u.1 ∧ u.2.length ≤ 15 := fun x h => by cases h
theorem okc2 {s : Srt} {y : Str} {r : List (Srt × Str)} (h : Word y s ∧ y.length ≤ 15) (hr : ∀ u ∈ r, Word u.2 u.1 ∧ u.2.length ≤ 15) : ∀ u ∈ (s, y) :: r, Word u.2 u.1 ∧ u.2.length ≤ 15 := fun x hx => by
  rcases List.mem_cons.mp hx with q | q
  · rw [q]; exact h
  · exact hr x q
def litOk (w : Str) (s : Srt) : Bool := (match w.cps.toList[0]? with | some c => !(c == 32 || c == 10 || c == 35) | none => false) && decide (tokAt tab w.cps.toList 0 = (s, w.cps.toList.length)) && decide (w.length ≤ 15)
theorem lit_ok {w : Str} {s : Srt} (h : litOk w s = true) : Word w s ∧ w.length ≤ 15 := by
  unfold litOk at h
  simp only [Bool.and_eq_true, decide_eq_true_eq] at h
  obtain ⟨⟨h1, h2⟩, h3⟩ := h
  refine ⟨⟨?_, h2⟩, h3⟩
  split at h1
  · rename_i c e
    refine ⟨c, e, ?_, ?_⟩
    · rintro (q | q) <;> subst q <;> simp at h1
    · intro q
      subst q
      simp at h1
  · cases h1
theorem sign_lit (w : Str) (h : litOk w .sign = true := by decide +kernel) : Word w .sign ∧ w.length ≤ 15 := lit_ok h
theorem kw_lit (w : Str) (h : litOk w .word = true := by decide +kernel) : Word w .word ∧ w.length ≤ 15 := lit_ok h
theorem nm_f {x : Str} (h : Nm x) : NmF x := by
  unfold Nm at h
  unfold NmF Free
  rcases h with rfl | rfl | rfl | rfl | rfl | rfl | rfl | rfl | rfl | rfl | rfl | rfl | rfl | rfl | rfl <;> decide +kernel
theorem pb_snoc : ∀ {l : List Stm} {w u : List Tok2} {s : Stm}, PB l w → PS s u → PB (l ++ [s]) (w ++ u)
  | [], w, u, s, h, hs => by
    have h : w = [] := h
    subst h
    show PB [s] u
    rw [PB]
    exact ⟨u, [], hs, rfl, by simp⟩
  | x :: r, w, u, s, h, hs => by
    rw [PB] at h
    obtain ⟨w1, w2, h1, h2, rfl⟩ := h
    rw [List.cons_append, PB]
    exact ⟨w1, w2 ++ u, h1, pb_snoc h2 hs, by rw [List.append_assoc]⟩
theorem ok_put_block {f : Addr} {fd : FuncData} (F : Fun K "_law_put_block" "_law_put_block" s__law_put_block f fd) (T : Txt K mg) (n : Nat) {f__law_put : Addr} {d__law_put : FuncData} (c__law_put : Cal P w K mg base 2 "_law_put" ["tape", "out", "string"] spPut f__law_put d__law_put) {f__law_put_value : Addr} {d__law_put_value : FuncData} (c__law_put_value : Cal P w K mg base 6 "_law_put_value" ["tape", "out", "tree", "least"] (spPV K 3) f__law_put_value d__law_put_value) {f__law_put_all : Addr} {d__law_put_all : FuncData} (c__law_put_all : Cal P w K mg base 3 "_law_put_all" ["tape", "out", "strings"] spPA f__law_put_all d__law_put_all) {f__law_put_names : Addr} {d__law_put_names : FuncData} (c__law_put_names : Cal P w K mg base 4 "_law_put_names" ["tape", "out", "names"] spPN f__law_put_names d__law_put_names) {f__law_put_block : Addr} {d__law_put_block : FuncData} (c__law_put_block : Cal P w K mg base (7+n) "_law_put_block" ["tape", "out", "block"] (spPB K n) f__law_put_block d__law_put_block) : FnOk P w K mg base CX0 (7+n+1) f fd ["tape", "out", "block"] (spPB K (n+1)) := by
  refine F.ok sc__law_put_block (fun vs H Q E h => ?_) (fun cdv A outer s H vs Q E hr h => ?_)
  · obtain ⟨d, c, o, z, v, x, W, rfl, _⟩ := h
    rfl
  · obtain ⟨d, c, o, z, v, x, W, rfl, hd, hx, hat, I, hz, k⟩ := h
    refine ⟨_, (pss_cons (ps_expr (pe_call c__law_put.G (hr.mono (by omega)) (by rfl) c__law_put.m c__law_put.k c__law_put.b .nil pass0 (pa_cons (pv 0) (pa_cons (pv 1) (pa_cons pe_str pa_nil)))))
      (pss_cons (ps_for PassesOwn.never rfl (pi_tup (pv 2)) (pg_name (i := 3) sc__law_put_block.nd rfl (.inl rfl)) (pss_one (ps_if (pt_cmpR op_eq (pe_ix ix_tup (pv 3) pe_int (fun _ _ => rfl)) pe_str (nomark _)) (pss_cons (ps_expr (pe_call c__law_put_all.G (hr.mono (by omega)) (by rfl) c__law_put_all.m c__law_put_all.k c__law_put_all.b .nil pass0 (pa_cons (pv 0) (pa_cons (pv 1) (pa_cons (pe_lst (pa_cons (pe_ix ix_tup (pv 3) pe_int (fun _ _ => rfl)) (pa_cons pe_str (pa_cons (pe_ix ix_tup (pv 3) pe_int (fun _ _ => rfl)) (pa_cons pe_str (pa_cons (pe_ix ix_tup (pv 3) pe_int (fun _ _ => rfl)) (pa_cons pe_str pa_nil))))))) pa_nil)))))
      (pss_cons (ps_expr (pe_call c__law_put_value.G (hr.mono (by omega)) (by rfl) c__law_put_value.m c__law_put_value.k c__law_put_value.b .nil pass0 (pa_cons (pv 0) (pa_cons (pv 1) (pa_cons (pe_ix ix_tup (pv 3) pe_int (fun _ _ => rfl)) (pa_cons pe_int pa_nil))))))
      (pss_one (ps_expr (pe_call c__law_put_all.G (hr.mono (by omega)) (by rfl) c__law_put_all.m c__law_put_all.k c__law_put_all.b .nil pass0 (pa_cons (pv 0) (pa_cons (pv 1) (pa_cons (pe_lst (pa_cons pe_str (pa_cons pe_str (pa_cons (pe_ix ix_tup (pv 3) pe_int (fun _ _ => rfl)) pa_nil)))) pa_nil)))))))) (pss_one (ps_if (pt_cmpR op_eq (pe_ix ix_tup (pv 3) pe_int (fun _ _ => rfl)) pe_str (nomark _)) (pss_cons (ps_expr (pe_call c__law_put_all.G (hr.mono (by omega)) (by rfl) c__law_put_all.m c__law_put_all.k c__law_put_all.b .nil pass0 (pa_cons (pv 0) (pa_cons (pv 1) (pa_cons (pe_lst (pa_cons (pe_ix ix_tup (pv 3) pe_int (fun _ _ => rfl)) (pa_cons pe_str (pa_cons (pe_ix ix_tup (pv 3) pe_int (fun _ _ => rfl)) (pa_cons pe_str pa_nil))))) pa_nil)))))
      (pss_one (ps_expr (pe_call c__law_put_value.G (hr.mono (by omega)) (by rfl) c__law_put_value.m c__law_put_value.k c__law_put_value.b .nil pass0 (pa_cons (pv 0) (pa_cons (pv 1) (pa_cons (pe_ix ix_tup (pv 3) pe_int (fun _ _ => rfl)) (pa_cons pe_int pa_nil)))))))) (pss_one (ps_if (pt_cmpR op_eq (pe_ix ix_tup (pv 3) pe_int (fun _ _ => rfl)) pe_str (nomark _)) (pss_one (ps_expr (pe_call c__law_put_all.G (hr.mono (by omega)) (by rfl) c__law_put_all.m c__law_put_all.k c__law_put_all.b .nil pass0 (pa_cons (pv 0) (pa_cons (pv 1) (pa_cons (pe_lst (pa_cons (pe_ix ix_tup (pv 3) pe_int (fun _ _ => rfl)) (pa_cons pe_str (pa_cons (pe_ix ix_tup (pv 3) pe_int (fun _ _ => rfl)) pa_nil)))) pa_nil)))))) (pss_one (ps_if (pt_cmpR op_eq (pe_ix ix_tup (pv 3) pe_int (fun _ _ => rfl)) pe_str (nomark _)) (pss_cons (ps_expr (pe_call c__law_put_all.G (hr.mono (by omega)) (by rfl) c__law_put_all.m c__law_put_all.k c__law_put_all.b .nil pass0 (pa_cons (pv 0) (pa_cons (pv 1) (pa_cons (pe_lst (pa_cons pe_str (pa_cons (pe_ix ix_tup (pv 3) pe_int (fun _ _ => rfl)) (pa_cons pe_str pa_nil)))) pa_nil)))))
      (pss_cons (ps_expr (pe_call c__law_put_names.G (hr.mono (by omega)) (by rfl) c__law_put_names.m c__law_put_names.k c__law_put_names.b .nil pass0 (pa_cons (pv 0) (pa_cons (pv 1) (pa_cons (pe_ix ix_tup (pv 3) pe_int (fun _ _ => rfl)) pa_nil)))))
      (pss_one (ps_expr (pe_call c__law_put.G (hr.mono (by omega)) (by rfl) c__law_put.m c__law_put.k c__law_put.b .nil pass0 (pa_cons (pv 0) (pa_cons (pv 1) (pa_cons pe_str pa_nil)))))))) (pss_cons (ps_expr (pe_call c__law_put_all.G (hr.mono (by omega)) (by rfl) c__law_put_all.m c__law_put_all.k c__law_put_all.b .nil pass0 (pa_cons (pv 0) (pa_cons (pv 1) (pa_cons (pe_lst (pa_cons (pe_ix ix_tup (pv 3) pe_int (fun _ _ => rfl)) (pa_cons (pe_ix ix_tup (pv 3) pe_int (fun _ _ => rfl)) (pa_cons pe_str pa_nil)))) pa_nil)))))
      (pss_cons (ps_expr (pe_call c__law_put_value.G (hr.mono (by omega)) (by rfl) c__law_put_value.m c__law_put_value.k c__law_put_value.b .nil pass0 (pa_cons (pv 0) (pa_cons (pv 1) (pa_cons (pe_ix ix_tup (pv 3) pe_int (fun _ _ => rfl)) (pa_cons pe_int pa_nil))))))
      (pss_cons (ps_expr (pe_call c__law_put_block.G (hr.mono (by omega)) (by rfl) c__law_put_block.m c__law_put_block.k c__law_put_block.b .nil pass0 (pa_cons (pv 0) (pa_cons (pv 1) (pa_cons (pe_ix ix_tup (pv 3) pe_int (fun _ _ => rfl)) pa_nil)))))
      (pss_one (ps_if (pt_cmpR op_eq (pe_ix ix_tup (pv 3) pe_int (fun _ _ => rfl)) pe_str (nomark _)) (pss_cons (ps_expr (pe_call c__law_put.G (hr.mono (by omega)) (by rfl) c__law_put.m c__law_put.k c__law_put.b .nil pass0 (pa_cons (pv 0) (pa_cons (pv 1) (pa_cons pe_str pa_nil)))))
      (pss_one (ps_expr (pe_call c__law_put_block.G (hr.mono (by omega)) (by rfl) c__law_put_block.m c__law_put_block.k c__law_put_block.b .nil pass0 (pa_cons (pv 0) (pa_cons (pv 1) (pa_cons (pe_ix ix_tup (pv 3) pe_int (fun _ _ => rfl)) pa_nil))))))) pss_nil))))))))))))))
      (pss_one (ps_expr (pe_call c__law_put.G (hr.mono (by omega)) (by rfl) c__law_put.m c__law_put.k c__law_put.b .nil pass0 (pa_cons (pv 0) (pa_cons (pv 1) (pa_cons pe_str pa_nil)))))))), ?_⟩
    refine ⟨_, rfl, _, rfl, d, c, o, z, "{", W, .sign, rfl, I, by omega, (sign_lit "{").1, (sign_lit "{").2, fun z1 H1 ws1 hw1 l1 I1 K1 => ?_⟩
    subst hw1
    have hat1 := At.rws (K1.rws I.T I.O) hat
    unfold blkDt at hat1
    rw [At] at hat1
    obtain ⟨pa, vs, rfl, hpa, hl⟩ := hat1
    refine ⟨_, rfl, pa, rfl, ⟨_, SqT.of hpa⟩, for_tup (K := K) (a := pa) (xs := vs) (fun i σ H' => ∃ (y : Option V) (z' : Str), σ = [some (.ref d), some (.ref o), some (.ref pa), y] ∧ z'.length ≤ z1.length + 30 * blkWd (x.take i) ∧ (∃ wb, PB (x.take i) wb ∧ Ink H' d c o z' (W ++ [sg "{"] ++ wb)) ∧ Kept2 d o H1 H')
      ⟨none, z1, rfl, by rw [List.take_zero]; exact Nat.le_refl _, ⟨[], rfl, by rw [List.append_nil]; exact I1⟩, .refl⟩ (fun i σ H' _ ⟨_, _, _, _, _, q⟩ => SqT.of ((q.rws I1.T I1.O).1 _ _ hpa)) ?_ ?_⟩
    · rintro i u σ H2 hi ⟨y, z2, rfl, l2, ⟨wb0, hpb, I2⟩, K2⟩
      have w12 := K2.rws I1.T I1.O
      obtain ⟨dd, ed, hu⟩ := AtL.inv (AtL.rws w12 hl) hi
      obtain ⟨st, es, rfl⟩ := blk_at ed
      obtain ⟨so, sn⟩ := blk_mem es hx
      obtain ⟨wt1, wt2⟩ := blkWd_take es
      -- behind this statement
      have etk : x.take (i + 1) = x.take i ++ [st] := by
        rw [List.take_add_one, es]
        rfl
      have done : ∀ z3 H3 ws, PS st ws → z3.length ≤ z2.length + 30 * st.wd → Ink H3 d c o z3 (W ++ [sg "{"] ++ wb0 ++ ws) → Kept2 d o H2 H3 → ∃ (y : Option V) (z' : Str), [some (V.ref d), some (.ref o), some (.ref pa), some u] = [some (.ref d), some (.ref o), some (.ref pa), y] ∧ z'.length ≤ z1.length + 30 * blkWd (x.take (i + 1)) ∧ (∃ wb, PB (x.take (i + 1)) wb ∧ Ink H3 d c o z' (W ++ [sg "{"] ++ wb)) ∧ Kept2 d o H1 H3 := fun z3 H3 ws hws l3 I3 K3 => ⟨_, z3, rfl, by omega, ⟨wb0 ++ ws, by rw [etk]; exact pb_snoc hpb hws, by rw [← List.append_assoc]; exact I3⟩, K2.trans K3⟩
      have room : z2.length + 30 * st.wd + 30 ≤ 400000 := by omega
      cases st with
      | msg a b l v x =>
        obtain ⟨n1, n2, n3, n4, n5⟩ : Nm a ∧ Nm b ∧ Nm l ∧ VO2 v ∧ Nm x := so
        have room : z2.length + 30 * (9 + v.wd) + 30 ≤ 400000 := room
        unfold Stm.dt at hu
        rw [At] at hu
        obtain ⟨p, us, rfl, hp, hul⟩ := hu
        simp only [AtL] at hul
        obtain ⟨u0, r0, rfl, h0, u1, r1, rfl, h1, u2, r2, rfl, h2, u3, r3, rfl, h3, u4, r4, rfl, h4, u5, r5, rfl, h5, rfl⟩ := hul
        unfold At at h0
        subst h0
        unfold At at h1
        subst h1
        unfold At at h2
        subst h2
        unfold At at h3
        subst h3
        unfold At at h5
        subst h5
        refine ⟨_, rfl, p, _, _, _, rfl, rfl, SqT.of hp, atI_nat (j := 0) rfl, rfl, _, rfl, ?_⟩
        rw [show decide (V.str "message" = V.str "message") = true by decide +kernel]
        refine iteT ?_
        refine ⟨_, rfl, _, rfl, _, rfl, p, _, _, _, rfl, rfl, SqT.of hp, atI_nat (j := 1) rfl, _, rfl, p, _, _, _, rfl, rfl, SqT.of hp, atI_nat (j := 2) rfl, _, rfl, p, _, _, _, rfl, rfl, SqT.of hp, atI_nat (j := 3) rfl, by show 6 ≤ sizeLine; decide, fun q3 hq3 => ?_⟩
        have sq3 := same_upd (o := .lst [.str (a), .str "->", .str (b), .str ":", .str (l), .str "("]) hq3
        refine ⟨d, c, o, q3, z2, _, [(.name, a), (.sign, "->"), (.name, b), (.sign, ":"), (.name, l), (.sign, "(")], rfl, I2.keep sq3, upd_same, by show z2.length + 30 * 6 ≤ 400000; omega, (okc2 (nm_word n1) (okc2 (sign_lit "->") (okc2 (nm_word n2) (okc2 (sign_lit ":") (okc2 (nm_word n3) (okc2 (sign_lit "(") okn2)))))), fun z3 H3 ws3 hw3 l3 I3 K3 => ?_⟩
        have l3 : z3.length ≤ z2.length + 30 * 6 := l3
        have w3 := (Same.rws sq3).trans (K3.rws (I2.keep sq3).T (I2.keep sq3).O)
        refine ⟨_, rfl, _, rfl, _, rfl, p, _, _, _, rfl, rfl, SqT.of (w3.1 _ _ hp), atI_nat (j := 4) rfl, d, c, o, z3, u4, v, 0, _, rfl, Nat.lt_succ_of_le n4.2, n4.1, At.rws w3 h4, I3, by omega, fun z4 H4 ws4 hw4 l4 I4 K4 => ?_⟩
        have pv4 : PV 0 12 v ws4 := hw4.mono (by have := n4.2; omega)
        have w4 := w3.trans (K4.rws I3.T I3.O)
        refine ⟨_, rfl, _, rfl, _, rfl, p, _, _, _, rfl, rfl, SqT.of (w4.1 _ _ hp), atI_nat (j := 5) rfl, by show 3 ≤ sizeLine; decide, fun q5 hq5 => ?_⟩
        have sq5 := same_upd (o := .lst [.str ")", .str "as", .str (x)]) hq5
        refine ⟨d, c, o, q5, z4, _, [(.sign, ")"), (.word, "as"), (.name, x)], rfl, I4.keep sq5, upd_same, by show z4.length + 30 * 3 ≤ 400000; omega, (okc2 (sign_lit ")") (okc2 (kw_lit "as") (okc2 (nm_word n5) okn2))), fun z5 H5 ws5 hw5 l5 I5 K5 => ?_⟩
        have l5 : z5.length ≤ z4.length + 30 * 3 := l5
        refine done z5 H5 (ws3 ++ (ws4 ++ ws5)) ⟨nm_f n1, ws4, pv4, by subst hw3; subst hw5; rfl⟩ (by show z5.length ≤ z2.length + 30 * (9 + v.wd); omega) (by simpa using I5) (((((Kept2.of sq3).trans K3).trans K4).trans (.of sq5)).trans K5)
      | set e x v =>
        obtain ⟨n1, n2, n4⟩ : Nm e ∧ Nm x ∧ VO2 v := so
        have room : z2.length + 30 * (4 + v.wd) + 30 ≤ 400000 := room
        unfold Stm.dt at hu
        rw [At] at hu
        obtain ⟨p, us, rfl, hp, hul⟩ := hu
        simp only [AtL] at hul
        obtain ⟨u0, r0, rfl, h0, u1, r1, rfl, h1, u2, r2, rfl, h2, u3, r3, rfl, h3, rfl⟩ := hul
        unfold At at h0
        subst h0
        unfold At at h1
        subst h1
        unfold At at h2
        subst h2
        refine ⟨_, rfl, p, _, _, _, rfl, rfl, SqT.of hp, atI_nat (j := 0) rfl, rfl, _, rfl, ?_⟩
        rw [show decide (V.str "set" = V.str "message") = false by decide +kernel]
        refine iteF ?_
        refine ⟨_, rfl, p, _, _, _, rfl, rfl, SqT.of hp, atI_nat (j := 0) rfl, rfl, _, rfl, ?_⟩
        rw [show decide (V.str "set" = V.str "set") = true by decide +kernel]
        refine iteT ?_
        refine ⟨_, rfl, _, rfl, _, rfl, p, _, _, _, rfl, rfl, SqT.of hp, atI_nat (j := 1) rfl, _, rfl, p, _, _, _, rfl, rfl, SqT.of hp, atI_nat (j := 2) rfl, by show 4 ≤ sizeLine; decide, fun q3 hq3 => ?_⟩
        have sq3 := same_upd (o := .lst [.str (e), .str "sets", .str (x), .str "="]) hq3
        refine ⟨d, c, o, q3, z2, _, [(.name, e), (.word, "sets"), (.name, x), (.sign, "=")], rfl, I2.keep sq3, upd_same, by show z2.length + 30 * 4 ≤ 400000; omega, (okc2 (nm_word n1) (okc2 (kw_lit "sets") (okc2 (nm_word n2) (okc2 (sign_lit "=") okn2)))), fun z3 H3 ws3 hw3 l3 I3 K3 => ?_⟩
        have l3 : z3.length ≤ z2.length + 30 * 4 := l3
        have w3 := (Same.rws sq3).trans (K3.rws (I2.keep sq3).T (I2.keep sq3).O)
        refine ⟨_, rfl, _, rfl, _, rfl, p, _, _, _, rfl, rfl, SqT.of (w3.1 _ _ hp), atI_nat (j := 3) rfl, d, c, o, z3, u3, v, 0, _, rfl, Nat.lt_succ_of_le n4.2, n4.1, At.rws w3 h3, I3, by omega, fun z4 H4 ws4 hw4 l4 I4 K4 => ?_⟩
        have pv4 : PV 0 12 v ws4 := hw4.mono (by have := n4.2; omega)
        refine done z4 H4 (ws3 ++ ws4) ⟨nm_f n1, ws4, pv4, by subst hw3; rfl⟩ (by show z4.length ≤ z2.length + 30 * (4 + v.wd); omega) (by simpa using I4) (((Kept2.of sq3).trans K3).trans K4)
      | ask e x =>
        obtain ⟨n1, n2⟩ : Nm e ∧ Nm x := so
        have room : z2.length + 30 * 3 + 30 ≤ 400000 := room
        unfold Stm.dt at hu
        rw [At] at hu
        obtain ⟨p, us, rfl, hp, hul⟩ := hu
        simp only [AtL] at hul
        obtain ⟨u0, r0, rfl, h0, u1, r1, rfl, h1, u2, r2, rfl, h2, rfl⟩ := hul
        unfold At at h0
        subst h0
        unfold At at h1
        subst h1
        unfold At at h2
        subst h2
        refine ⟨_, rfl, p, _, _, _, rfl, rfl, SqT.of hp, atI_nat (j := 0) rfl, rfl, _, rfl, ?_⟩
        rw [show decide (V.str "ask" = V.str "message") = false by decide +kernel]
        refine iteF ?_
        refine ⟨_, rfl, p, _, _, _, rfl, rfl, SqT.of hp, atI_nat (j := 0) rfl, rfl, _, rfl, ?_⟩
        rw [show decide (V.str "ask" = V.str "set") = false by decide +kernel]
        refine iteF ?_
        refine ⟨_, rfl, p, _, _, _, rfl, rfl, SqT.of hp, atI_nat (j := 0) rfl, rfl, _, rfl, ?_⟩
        rw [show decide (V.str "ask" = V.str "ask") = true by decide +kernel]
        refine iteT ?_
        refine ⟨_, rfl, _, rfl, _, rfl, p, _, _, _, rfl, rfl, SqT.of hp, atI_nat (j := 1) rfl, _, rfl, p, _, _, _, rfl, rfl, SqT.of hp, atI_nat (j := 2) rfl, by show 3 ≤ sizeLine; decide, fun q3 hq3 => ?_⟩
        have sq3 := same_upd (o := .lst [.str (e), .str "asks", .str (x)]) hq3
        refine ⟨d, c, o, q3, z2, _, [(.name, e), (.word, "asks"), (.name, x)], rfl, I2.keep sq3, upd_same, by show z2.length + 30 * 3 ≤ 400000; omega, (okc2 (nm_word n1) (okc2 (kw_lit "asks") (okc2 (nm_word n2) okn2))), fun z3 H3 ws3 hw3 l3 I3 K3 => ?_⟩
        have l3 : z3.length ≤ z2.length + 30 * 3 := l3
        exact done z3 H3 ws3 ⟨nm_f n1, by subst hw3; rfl⟩ (by show z3.length ≤ z2.length + 30 * 3; omega) I3 ((Kept2.of sq3).trans K3)
      | call pn cs =>
        obtain ⟨n1, n2, n3⟩ : Nm pn ∧ cs ≠ [] ∧ ∀ e ∈ cs, Nm e := so
        have room : z2.length + 30 * (4 + 2 * cs.length) + 30 ≤ 400000 := room
        unfold Stm.dt at hu
        rw [At] at hu
        obtain ⟨p, us, rfl, hp, hul⟩ := hu
        simp only [AtL] at hul
        obtain ⟨u0, r0, rfl, h0, u1, r1, rfl, h1, u2, r2, rfl, h2, rfl⟩ := hul
        unfold At at h0
        subst h0
        unfold At at h1
        subst h1
        refine ⟨_, rfl, p, _, _, _, rfl, rfl, SqT.of hp, atI_nat (j := 0) rfl, rfl, _, rfl, ?_⟩
        rw [show decide (V.str "call" = V.str "message") = false by decide +kernel]
        refine iteF ?_
        refine ⟨_, rfl, p, _, _, _, rfl, rfl, SqT.of hp, atI_nat (j := 0) rfl, rfl, _, rfl, ?_⟩
        rw [show decide (V.str "call" = V.str "set") = false by decide +kernel]
        refine iteF ?_
        refine ⟨_, rfl, p, _, _, _, rfl, rfl, SqT.of hp, atI_nat (j := 0) rfl, rfl, _, rfl, ?_⟩
        rw [show decide (V.str "call" = V.str "ask") = false by decide +kernel]
        refine iteF ?_
        refine ⟨_, rfl, p, _, _, _, rfl, rfl, SqT.of hp, atI_nat (j := 0) rfl, rfl, _, rfl, ?_⟩
        rw [show decide (V.str "call" = V.str "call") = true by decide +kernel]
        refine iteT ?_
        refine ⟨_, rfl, _, rfl, _, rfl, p, _, _, _, rfl, rfl, SqT.of hp, atI_nat (j := 1) rfl, by show 3 ≤ sizeLine; decide, fun q3 hq3 => ?_⟩
        have sq3 := same_upd (o := .lst [.str "call", .str (pn), .str "("]) hq3
        refine ⟨d, c, o, q3, z2, _, [(.word, "call"), (.name, pn), (.sign, "(")], rfl, I2.keep sq3, upd_same, by show z2.length + 30 * 3 ≤ 400000; omega, (okc2 (kw_lit "call") (okc2 (nm_word n1) (okc2 (sign_lit "(") okn2))), fun z3 H3 ws3 hw3 l3 I3 K3 => ?_⟩
        have l3 : z3.length ≤ z2.length + 30 * 3 := l3
        have w3 := (Same.rws sq3).trans (K3.rws (I2.keep sq3).T (I2.keep sq3).O)
        obtain ⟨qn, rfl, hqn⟩ := names_inv h2
        refine ⟨_, rfl, _, rfl, _, rfl, p, _, _, _, rfl, rfl, SqT.of (w3.1 _ _ hp), atI_nat (j := 2) rfl, d, c, o, qn, z3, _, cs, rfl, I3, w3.1 _ _ hqn, by omega, n3, by omega, fun z4 H4 ws4 hw4 l4 I4 K4 => ?_⟩
        refine ⟨_, rfl, _, rfl, d, c, o, z4, ")", _, .sign, rfl, I4, by omega, (sign_lit ")").1, (sign_lit ")").2, fun z5 H5 ws5 hw5 l5 I5 K5 => ?_⟩
        refine done z5 H5 (ws3 ++ (ws4 ++ ws5)) ⟨n2, by subst hw3; subst hw4; subst hw5; rfl⟩ (by show z5.length ≤ z2.length + 30 * (4 + 2 * cs.length); omega) (by simpa using I5) ((((Kept2.of sq3).trans K3).trans K4).trans K5)
      | ite e v yes no =>
        obtain ⟨n1, n4, n5, n6⟩ : Nm e ∧ VO2 v ∧ blkOk yes ∧ blkOk no := so
        have room : z2.length + 30 * (4 + v.wd + (2 + blkWd yes) + (2 + blkWd no)) + 30 ≤ 400000 := room
        have sn : max (blkNst yes) (blkNst no) + 1 ≤ blkNst x := sn
        unfold Stm.dt at hu
        rw [At] at hu
        obtain ⟨p, us, rfl, hp, hul⟩ := hu
        simp only [AtL] at hul
        obtain ⟨u0, r0, rfl, h0, u1, r1, rfl, h1, u2, r2, rfl, h2, u3, r3, rfl, h3, u4, r4, rfl, h4, rfl⟩ := hul
        unfold At at h0
        subst h0
        unfold At at h1
        subst h1
        refine ⟨_, rfl, p, _, _, _, rfl, rfl, SqT.of hp, atI_nat (j := 0) rfl, rfl, _, rfl, ?_⟩
        rw [show decide (V.str "if" = V.str "message") = false by decide +kernel]
        refine iteF ?_
        refine ⟨_, rfl, p, _, _, _, rfl, rfl, SqT.of hp, atI_nat (j := 0) rfl, rfl, _, rfl, ?_⟩
        rw [show decide (V.str "if" = V.str "set") = false by decide +kernel]
        refine iteF ?_
        refine ⟨_, rfl, p, _, _, _, rfl, rfl, SqT.of hp, atI_nat (j := 0) rfl, rfl, _, rfl, ?_⟩
        rw [show decide (V.str "if" = V.str "ask") = false by decide +kernel]
        refine iteF ?_
        refine ⟨_, rfl, p, _, _, _, rfl, rfl, SqT.of hp, atI_nat (j := 0) rfl, rfl, _, rfl, ?_⟩
        rw [show decide (V.str "if" = V.str "call") = false by decide +kernel]
        refine iteF ?_
        refine ⟨_, rfl, _, rfl, _, rfl, p, _, _, _, rfl, rfl, SqT.of hp, atI_nat (j := 0) rfl, _, rfl, p, _, _, _, rfl, rfl, SqT.of hp, atI_nat (j := 1) rfl, by show 3 ≤ sizeLine; decide, fun q3 hq3 => ?_⟩
        have sq3 := same_upd (o := .lst [.str (("if" : Str)), .str (e), .str ":"]) hq3
        refine ⟨d, c, o, q3, z2, _, [(.word, ("if" : Str)), (.name, e), (.sign, ":")], rfl, I2.keep sq3, upd_same, by show z2.length + 30 * 3 ≤ 400000; omega, (okc2 (kw_lit "if") (okc2 (nm_word n1) (okc2 (sign_lit ":") okn2))), fun z3 H3 ws3 hw3 l3 I3 K3 => ?_⟩
        have l3 : z3.length ≤ z2.length + 30 * 3 := l3
        have w3 := (Same.rws sq3).trans (K3.rws (I2.keep sq3).T (I2.keep sq3).O)
        refine ⟨_, rfl, _, rfl, _, rfl, p, _, _, _, rfl, rfl, SqT.of (w3.1 _ _ hp), atI_nat (j := 2) rfl, d, c, o, z3, u2, v, 0, _, rfl, Nat.lt_succ_of_le n4.2, n4.1, At.rws w3 h2, I3, by omega, fun z4 H4 ws4 hw4 l4 I4 K4 => ?_⟩
        have pv4 : PV 0 12 v ws4 := hw4.mono (by have := n4.2; omega)
        have w4 := w3.trans (K4.rws I3.T I3.O)
        refine ⟨_, rfl, _, rfl, _, rfl, p, _, _, _, rfl, rfl, SqT.of (w4.1 _ _ hp), atI_nat (j := 3) rfl, d, c, o, z4, u3, yes, _, rfl, by omega, n5, At.rws w4 h3, I4, by omega, fun z5 H5 ws5 hw5 l5 I5 K5 => ?_⟩
        obtain ⟨wy, py, e5⟩ := hw5
        have w5 := w4.trans (K5.rws I4.T I4.O)
        refine ⟨_, rfl, p, _, _, _, rfl, rfl, SqT.of (w5.1 _ _ hp), atI_nat (j := 0) rfl, rfl, _, rfl, ?_⟩
        rw [show decide (V.str "if" = V.str "if") = true by decide +kernel]
        refine iteT ?_
        refine ⟨_, rfl, _, rfl, d, c, o, z5, "else", _, .word, rfl, I5, by omega, (kw_lit "else").1, (kw_lit "else").2, fun z6 H6 ws6 hw6 l6 I6 K6 => ?_⟩
        have w6 := w5.trans (K6.rws I5.T I5.O)
        refine ⟨_, rfl, _, rfl, _, rfl, p, _, _, _, rfl, rfl, SqT.of (w6.1 _ _ hp), atI_nat (j := 4) rfl, d, c, o, z6, u4, no, _, rfl, by omega, n6, At.rws w6 h4, I6, by omega, fun z7 H7 ws7 hw7 l7 I7 K7 => ?_⟩
        obtain ⟨wn, pn, e7⟩ := hw7
        refine done z7 H7 (ws3 ++ (ws4 ++ ws5 ++ (ws6 ++ ws7))) (by rw [PS]; exact ⟨ws4, wy, wn, pv4, py, pn, by subst hw3; subst hw6; subst e5; subst e7; rfl⟩) (by show z7.length ≤ z2.length + 30 * (4 + v.wd + (2 + blkWd yes) + (2 + blkWd no)); omega) (by simpa using I7) ((((((Kept2.of sq3).trans K3).trans K4).trans K5).trans K6).trans K7)
      | whl e v b =>
        obtain ⟨n1, n4, n5⟩ : Nm e ∧ VO2 v ∧ blkOk b := so
        have room : z2.length + 30 * (3 + v.wd + (2 + blkWd b)) + 30 ≤ 400000 := room
        have sn : blkNst b + 1 ≤ blkNst x := sn
        unfold Stm.dt at hu
        rw [At] at hu
        obtain ⟨p, us, rfl, hp, hul⟩ := hu
        simp only [AtL] at hul
        obtain ⟨u0, r0, rfl, h0, u1, r1, rfl, h1, u2, r2, rfl, h2, u3, r3, rfl, h3, rfl⟩ := hul
        unfold At at h0
        subst h0
        unfold At at h1
        subst h1
        refine ⟨_, rfl, p, _, _, _, rfl, rfl, SqT.of hp, atI_nat (j := 0) rfl, rfl, _, rfl, ?_⟩
        rw [show decide (V.str "while" = V.str "message") = false by decide +kernel]
        refine iteF ?_
        refine ⟨_, rfl, p, _, _, _, rfl, rfl, SqT.of hp, atI_nat (j := 0) rfl, rfl, _, rfl, ?_⟩
        rw [show decide (V.str "while" = V.str "set") = false by decide +kernel]
        refine iteF ?_
        refine ⟨_, rfl, p, _, _, _, rfl, rfl, SqT.of hp, atI_nat (j := 0) rfl, rfl, _, rfl, ?_⟩
        rw [show decide (V.str "while" = V.str "ask") = false by decide +kernel]
        refine iteF ?_
        refine ⟨_, rfl, p, _, _, _, rfl, rfl, SqT.of hp, atI_nat (j := 0) rfl, rfl, _, rfl, ?_⟩
        rw [show decide (V.str "while" = V.str "call") = false by decide +kernel]
        refine iteF ?_
        refine ⟨_, rfl, _, rfl, _, rfl, p, _, _, _, rfl, rfl, SqT.of hp, atI_nat (j := 0) rfl, _, rfl, p, _, _, _, rfl, rfl, SqT.of hp, atI_nat (j := 1) rfl, by show 3 ≤ sizeLine; decide, fun q3 hq3 => ?_⟩
        have sq3 := same_upd (o := .lst [.str (("while" : Str)), .str (e), .str ":"]) hq3
        refine ⟨d, c, o, q3, z2, _, [(.word, ("while" : Str)), (.name, e), (.sign, ":")], rfl, I2.keep sq3, upd_same, by show z2.length + 30 * 3 ≤ 400000; omega, (okc2 (kw_lit "while") (okc2 (nm_word n1) (okc2 (sign_lit ":") okn2))), fun z3 H3 ws3 hw3 l3 I3 K3 => ?_⟩
        have l3 : z3.length ≤ z2.length + 30 * 3 := l3
        have w3 := (Same.rws sq3).trans (K3.rws (I2.keep sq3).T (I2.keep sq3).O)
        refine ⟨_, rfl, _, rfl, _, rfl, p, _, _, _, rfl, rfl, SqT.of (w3.1 _ _ hp), atI_nat (j := 2) rfl, d, c, o, z3, u2, v, 0, _, rfl, Nat.lt_succ_of_le n4.2, n4.1, At.rws w3 h2, I3, by omega, fun z4 H4 ws4 hw4 l4 I4 K4 => ?_⟩
        have pv4 : PV 0 12 v ws4 := hw4.mono (by have := n4.2; omega)
        have w4 := w3.trans (K4.rws I3.T I3.O)
        refine ⟨_, rfl, _, rfl, _, rfl, p, _, _, _, rfl, rfl, SqT.of (w4.1 _ _ hp), atI_nat (j := 3) rfl, d, c, o, z4, u3, b, _, rfl, by omega, n5, At.rws w4 h3, I4, by omega, fun z5 H5 ws5 hw5 l5 I5 K5 => ?_⟩
        obtain ⟨wb, pb, e5⟩ := hw5
        have w5 := w4.trans (K5.rws I4.T I4.O)
        refine ⟨_, rfl, p, _, _, _, rfl, rfl, SqT.of (w5.1 _ _ hp), atI_nat (j := 0) rfl, rfl, _, rfl, ?_⟩
        rw [show decide (V.str "while" = V.str "if") = false by decide +kernel]
        refine iteF ?_
        refine done z5 H5 (ws3 ++ (ws4 ++ ws5)) (by rw [PS]; exact ⟨ws4, wb, pv4, pb, by subst hw3; subst e5; rfl⟩) (by show z5.length ≤ z2.length + 30 * (3 + v.wd + (2 + blkWd b)); omega) (by simpa using I5) ((((Kept2.of sq3).trans K3).trans K4).trans K5)
    · rintro σ H2 ⟨y, z2, rfl, l2, ⟨wb, hpb, I2⟩, K2⟩
      rw [hl.length, blkDts_len, List.take_length] at l2 hpb
      refine ⟨_, rfl, _, rfl, d, c, o, z2, "}", _, .sign, rfl, I2, by omega, (sign_lit "}").1, (sign_lit "}").2, fun z3 H3 ws3 hw3 l3 I3 K3 => k z3 H3 (sg "{" :: (wb ++ [sg "}"])) ⟨wb, hpb, rfl⟩ (by omega) ?_ ((K1.trans K2).trans K3)⟩
      subst hw3
      have e : W ++ sg "{" :: (wb ++ [sg "}"]) = W ++ [sg "{"] ++ wb ++ [((kindS .sign, ("}" : Str)) : Tok2)] := by
        simp
        rfl
      rw [e]
      exact I3
end
end OS

namespace OS
open PySem PySem.Spec PyProof.Rows L2
/-! ### scores are printed: with the words (in place of t_pu3) -/
section
variable {P : Program} {w : World} {K : PySem.W.Frag} {mg : Str → Option Value} {base : Heap}
theorem pb_all (T : Txt K mg) {f__law_put : Addr} {d__law_put : FuncData} (c__law_put : Cal P w K mg base 2 "_law_put" ["tape", "out", "string"] spPut f__law_put d__law_put) {f__law_put_value : Addr} {d__law_put_value : FuncData} (c__law_put_value : Cal P w K mg base 6 "_law_put_value" ["tape", "out", "tree", "least"] (spPV K 3) f__law_put_value d__law_put_value) {f__law_put_all : Addr} {d__law_put_all : FuncData} (c__law_put_all : Cal P w K mg base 3 "_law_put_all" ["tape", "out", "strings"] spPA f__law_put_all d__law_put_all) {f__law_put_names : Addr} {d__law_put_names : FuncData} (c__law_put_names : Cal P w K mg base 4 "_law_put_names" ["tape", "out", "names"] spPN f__law_put_names d__law_put_names) {f1 : Addr} {d1 : FuncData}
    (F1 : Fun K "_law_put_block" "_law_put_block" s__law_put_block f1 d1) (b1 : Binds K d1 ["tape", "out", "block"] []) (m1 : mg "_law_put_block" = some (.ref f1)) :
    ∀ n : Nat, FnOk P w K mg base CX0 (7+n) f1 d1 ["tape", "out", "block"] (spPB K n)
  | 0 => pb_none
  | n + 1 => by
    have ih := pb_all T c__law_put c__law_put_value c__law_put_all c__law_put_names F1 b1 m1 n
    exact ok_put_block F1 T n c__law_put c__law_put_value c__law_put_all c__law_put_names ⟨ih, b1, F1.kp, m1⟩
def spPT (K : PySem.W.Frag) (n : Nat) : Sp := fun vs H Q _ => ∃ (d c o : Addr) (z : Str) (v : V) (x : Tree) (W : List Tok2), vs = [.ref d, .ref o, v] ∧ TOk x ∧ blkNst x.body < n ∧ At K H x.dt v ∧ Ink H d c o z W ∧ z.length + 30 * x.wd ≤ 400000 ∧ More H d c o z W x.wd (PT x) (Q .non)
theorem prtsWd_take : ∀ {b : List Prt} {i : Nat} {s : Prt}, b[i]? = some s → prtsWd (b.take (i + 1)) = prtsWd (b.take i) + prtWd s ∧ prtsWd (b.take (i + 1)) ≤ prtsWd b
  | [], i, s, h => by simp at h
  | x :: r, 0, s, h => by
    have e : x = s := Option.some.inj h
    subst e
    show prtWd x + 0 = 0 + prtWd x ∧ prtWd x + 0 ≤ prtWd x + prtsWd r
    exact ⟨by omega, by omega⟩
  | x :: r, i + 1, s, h => by
    obtain ⟨h1, h2⟩ := prtsWd_take (b := r) (i := i) h
    show prtWd x + prtsWd (r.take (i + 1)) = prtWd x + prtsWd (r.take i) + prtWd s ∧ prtWd x + prtsWd (r.take (i + 1)) ≤ prtWd x + prtsWd r
    exact ⟨by omega, by omega⟩
theorem pps_snoc : ∀ {l : List Prt} {w u : List Tok2} {s : Prt}, PPs l w → PP s u → PPs (l ++ [s]) (w ++ u)
  | [], w, u, s, h, hs => by
    have h : w = [] := h
    subst h
    exact ⟨u, [], hs, rfl, by simp⟩
  | x :: r, w, u, s, h, hs => by
    obtain ⟨w1, w2, h1, h2, rfl⟩ : ∃ w1 w2, PP x w1 ∧ PPs r w2 ∧ w = w1 ++ w2 := h
    exact ⟨w1, w2 ++ u, h1, pps_snoc h2 hs, by rw [List.append_assoc]⟩
theorem ok_put_tree {f : Addr} {fd : FuncData} (F : Fun K "_law_put_tree" "_law_put_tree" s__law_put_tree f fd) (T : Txt K mg) {f__law_put : Addr} {d__law_put : FuncData} (c__law_put : Cal P w K mg base 2 "_law_put" ["tape", "out", "string"] spPut f__law_put d__law_put) {f__law_put_all : Addr} {d__law_put_all : FuncData} (c__law_put_all : Cal P w K mg base 3 "_law_put_all" ["tape", "out", "strings"] spPA f__law_put_all d__law_put_all) {f__law_put_names : Addr} {d__law_put_names : FuncData} (c__law_put_names : Cal P w K mg base 4 "_law_put_names" ["tape", "out", "names"] spPN f__law_put_names d__law_put_names) (n : Nat) (hn2 : 2 ≤ n) {f__law_put_block : Addr} {d__law_put_block : FuncData} (c__law_put_block : Cal P w K mg base (7+n) "_law_put_block" ["tape", "out", "block"] (spPB K n) f__law_put_block d__law_put_block) : FnOk P w K mg base CX0 (7+n+1) f fd ["tape", "out", "tree"] (spPT K n) := by
  refine F.ok sc__law_put_tree (fun vs H Q E h => ?_) (fun cdv A outer s H vs Q E hr h => ?_)
  · obtain ⟨d, c, o, z, v, x, W, rfl, _⟩ := h
    rfl
  · obtain ⟨d, c, o, z, v, x, W, rfl, hx, hb, hat, I, hz, k⟩ := h
    have hwd : x.wd = 2 + 2 * x.ends.length + prtsWd x.parts + (2 + blkWd x.body) := rfl
    refine ⟨_, (pss_cons (ps_expr (pe_call c__law_put.G (hr.mono (by omega)) (by rfl) c__law_put.m c__law_put.k c__law_put.b .nil pass0 (pa_cons (pv 0) (pa_cons (pv 1) (pa_cons pe_str pa_nil)))))
      (pss_cons (ps_expr (pe_call c__law_put_names.G (hr.mono (by omega)) (by rfl) c__law_put_names.m c__law_put_names.k c__law_put_names.b .nil pass0 (pa_cons (pv 0) (pa_cons (pv 1) (pa_cons (pe_ix ix_tup (pv 2) pe_int (fun _ _ => rfl)) pa_nil)))))
      (pss_cons (ps_for PassesOwn.never rfl (pi_tup (pe_ix ix_tup (pv 2) pe_int (fun _ _ => rfl))) (pg_tup (by rfl) (pgs_cons (pg_name (i := 3) sc__law_put_tree.nd rfl (.inl rfl)) (pgs_cons (pg_name (i := 4) sc__law_put_tree.nd rfl (.inl rfl)) (pgs_cons (pg_name (i := 5) sc__law_put_tree.nd rfl (.inl rfl)) pgs_nil)))) (pss_cons (ps_expr (pe_call c__law_put_all.G (hr.mono (by omega)) (by rfl) c__law_put_all.m c__law_put_all.k c__law_put_all.b .nil pass0 (pa_cons (pv 0) (pa_cons (pv 1) (pa_cons (pe_lst (pa_cons pe_str (pa_cons (pv 3) (pa_cons pe_str pa_nil)))) pa_nil)))))
      (pss_cons (ps_expr (pe_call c__law_put_names.G (hr.mono (by omega)) (by rfl) c__law_put_names.m c__law_put_names.k c__law_put_names.b .nil pass0 (pa_cons (pv 0) (pa_cons (pv 1) (pa_cons (pv 4) pa_nil)))))
      (pss_cons (ps_expr (pe_call c__law_put.G (hr.mono (by omega)) (by rfl) c__law_put.m c__law_put.k c__law_put.b .nil pass0 (pa_cons (pv 0) (pa_cons (pv 1) (pa_cons pe_str pa_nil)))))
      (pss_one (ps_expr (pe_call c__law_put_block.G (hr.mono (by omega)) (by rfl) c__law_put_block.m c__law_put_block.k c__law_put_block.b .nil pass0 (pa_cons (pv 0) (pa_cons (pv 1) (pa_cons (pv 5) pa_nil))))))))))
      (pss_cons (ps_expr (pe_call c__law_put.G (hr.mono (by omega)) (by rfl) c__law_put.m c__law_put.k c__law_put.b .nil pass0 (pa_cons (pv 0) (pa_cons (pv 1) (pa_cons pe_str pa_nil)))))
      (pss_one (ps_expr (pe_call c__law_put_block.G (hr.mono (by omega)) (by rfl) c__law_put_block.m c__law_put_block.k c__law_put_block.b .nil pass0 (pa_cons (pv 0) (pa_cons (pv 1) (pa_cons (pe_ix ix_tup (pv 2) pe_int (fun _ _ => rfl)) pa_nil)))))))))), ?_⟩
    refine ⟨_, rfl, _, rfl, d, c, o, z, "ends", W, .word, rfl, I, by omega, (kw_lit "ends").1, (kw_lit "ends").2, fun z1 H1 ws1 hw1 l1 I1 K1 => ?_⟩
    have hat1 := At.rws (K1.rws I.T I.O) hat
    unfold Tree.dt at hat1
    rw [At] at hat1
    obtain ⟨p, vs, rfl, hp, hl⟩ := hat1
    simp only [AtL] at hl
    obtain ⟨u0, r0, rfl, h0, u1, r1, rfl, h1, u2, r2, rfl, h2, rfl⟩ := hl
    obtain ⟨qn, rfl, hqn⟩ := names_inv h0
    rw [At] at h1
    obtain ⟨pp, pvs, rfl, hpp, hpl⟩ := h1
    refine ⟨_, rfl, _, rfl, _, rfl, p, _, _, _, rfl, rfl, SqT.of hp, atI_nat (j := 0) rfl, d, c, o, qn, z1, _, x.ends, rfl, I1, hqn, by omega, hx.en, by omega, fun z2 H2 ws2 hw2 l2 I2 K2 => ?_⟩
    have w2 := K2.rws I1.T I1.O
    refine ⟨_, rfl, p, _, _, _, rfl, rfl, SqT.of (w2.1 _ _ hp), atI_nat (j := 1) rfl, pp, rfl, ⟨_, SqT.of (w2.1 _ _ hpp)⟩, ?_⟩
    refine for_tup (K := K) (a := pp) (xs := pvs) (fun i σ H' => ∃ (y3 y4 y5 : Option V) (z' : Str), σ = [some (.ref d), some (.ref o), some (.ref p), y3, y4, y5] ∧ z'.length ≤ z2.length + 30 * prtsWd (x.parts.take i) ∧ (∃ wp, PPs (x.parts.take i) wp ∧ Ink H' d c o z' (W ++ ws1 ++ ws2 ++ wp)) ∧ Kept2 d o H2 H')
      ⟨none, none, none, z2, rfl, by rw [List.take_zero]; exact Nat.le_refl _, ⟨[], rfl, by rw [List.append_nil]; exact I2⟩, .refl⟩ (fun i σ H' _ ⟨_, _, _, _, _, _, _, q⟩ => SqT.of ((q.rws I2.T I2.O).1 _ _ (w2.1 _ _ hpp))) ?_ ?_
    · rintro i u σ H3 hi ⟨y3, y4, y5, z3, rfl, l3, ⟨wp0, hpp0, I3⟩, K3⟩
      have w3 := w2.trans (K3.rws I2.T I2.O)
      obtain ⟨dd, ed, hu⟩ := AtL.inv (AtL.rws w3 hpl) hi
      rw [List.getElem?_map] at ed
      obtain ⟨pt, es, rfl⟩ : ∃ q, x.parts[i]? = some q ∧ dd = q.dt := by
        cases e : x.parts[i]? with
        | none => rw [e] at ed; cases ed
        | some q => rw [e] at ed; exact ⟨q, rfl, (Option.some.inj ed).symm⟩
      obtain ⟨po1, po2, po3, po4, po5, po6⟩ := hx.po _ (List.mem_of_getElem? es)
      obtain ⟨wt1, wt2⟩ := prtsWd_take es
      have hpw : prtWd pt = 4 + 2 * pt.params.length + (2 + blkWd pt.body) := rfl
      obtain ⟨ap, qp, up, rfl, hap, hqp, hbp⟩ := prt_inv hu
      refine ⟨ap, _, rfl, SqT.of hap, rfl, _, _, rfl, _, _, rfl, _, _, rfl, rfl, ?_⟩
      refine ⟨_, rfl, _, rfl, _, rfl, by show 3 ≤ sizeLine; decide, fun q4 hq4 => ?_⟩
      have sq4 := same_upd (o := .lst [.str "part", .str pt.name, .str "("]) hq4
      refine ⟨d, c, o, q4, z3, _, [(.word, "part"), (.name, pt.name), (.sign, "(")], rfl, I3.keep sq4, upd_same, by show z3.length + 30 * 3 ≤ 400000; omega, okc2 (kw_lit "part") (okc2 (nm_word po1) (okc2 (sign_lit "(") okn2)), fun z4 H4 ws4 hw4 l4 I4 K4 => ?_⟩
      have l4 : z4.length ≤ z3.length + 30 * 3 := l4
      have w4 := (Same.rws sq4).trans (K4.rws (I3.keep sq4).T (I3.keep sq4).O)
      refine ⟨_, rfl, _, rfl, _, rfl, d, c, o, qp, z4, _, pt.params, rfl, I4, w4.1 _ _ hqp, by omega, po3, by omega, fun z5 H5 ws5 hw5 l5 I5 K5 => ?_⟩
      have w5 := w4.trans (K5.rws I4.T I4.O)
      refine ⟨_, rfl, _, rfl, d, c, o, z5, ")", _, .sign, rfl, I5, by omega, (sign_lit ")").1, (sign_lit ")").2, fun z6 H6 ws6 hw6 l6 I6 K6 => ?_⟩
      have w6 := w5.trans (K6.rws I5.T I5.O)
      refine ⟨_, rfl, _, rfl, _, rfl, d, c, o, z6, up, pt.body, _, rfl, by omega, po5, At.rws w6 hbp, I6, by omega, fun z7 H7 ws7 hw7 l7 I7 K7 => ?_⟩
      obtain ⟨wb, pb, e7⟩ := hw7
      have etk : x.parts.take (i + 1) = x.parts.take i ++ [pt] := by
        rw [List.take_add_one, es]
        rfl
      have pp : PP pt (ws4 ++ (ws5 ++ (ws6 ++ ws7))) := ⟨po2, wb, pb, by subst hw4; subst hw5; subst hw6; subst e7; show _ = kw "part" :: nmT pt.name :: _; simp [wd2, kindS, kw, nmT, sg]⟩
      exact ⟨_, _, _, z7, rfl, by omega, ⟨wp0 ++ (ws4 ++ (ws5 ++ (ws6 ++ ws7))), by rw [etk]; exact pps_snoc hpp0 pp, by simpa using I7⟩, ((((K3.trans (.of sq4)).trans K4).trans K5).trans K6).trans K7⟩
    · rintro σ H3 ⟨y3, y4, y5, z3, rfl, l3, ⟨wp, hwp, I3⟩, K3⟩
      have e3 := hpl.length
      rw [List.length_map] at e3
      rw [e3, List.take_length] at l3 hwp
      have w3 := w2.trans (K3.rws I2.T I2.O)
      refine ⟨_, rfl, _, rfl, d, c, o, z3, "play", _, .word, rfl, I3, by omega, (kw_lit "play").1, (kw_lit "play").2, fun z4 H4 ws4 hw4 l4 I4 K4 => ?_⟩
      have w4 := w3.trans (K4.rws I3.T I3.O)
      exact ⟨_, rfl, _, rfl, _, rfl, p, _, _, _, rfl, rfl, SqT.of (w4.1 _ _ hp), atI_nat (j := 2) rfl, d, c, o, z4, u2, x.body, _, rfl, by omega, hx.bo, At.rws w4 h2, I4, by omega, fun z5 H5 ws5 hw5 l5 I5 K5 => (by
        obtain ⟨wb, pb, e5⟩ := hw5
        refine k z5 H5 (ws1 ++ (ws2 ++ (wp ++ (ws4 ++ ws5)))) ⟨hx.e0, wp, wb, hwp, pb, ?_⟩ (by omega) (by simpa using I5) ((((K1.trans K2).trans K3).trans K4).trans K5)
        subst hw1; subst hw2; subst hw4; subst e5
        simp [kindS, kw, sg])⟩
end
end OS

namespace OS
open PySem PySem.Spec PyProof.Rows L2
/-! ### the told form of values -/
def brkL (s t : Str) : Bool := inV (.str t) [.str "<", .str "=="] || (inV (.str t) [.str "+", .str "-"] && decide (V.str s = V.str "*"))
def brkR (s t : Str) : Bool := inV (.str t) [.str "<", .str "=="] || ((inV (.str t) [.str "+", .str "-"] && inV (.str s) [.str "+", .str "-", .str "*"]) || (decide (V.str t = V.str "*") && decide (V.str s = V.str "*")))
def tell : Val → Str
  | .num n => Str.ofString (toString n)
  | .name x => x
  | .op s a b => (if brkL s a.hd = true then "(" ++ tell a ++ ")" else tell a) ++ " " ++ s ++ " " ++ (if brkR s b.hd = true then "(" ++ tell b ++ ")" else tell b)
theorem tell_len : ∀ {x : Val}, VOk x → (tell x).length ≤ 10 * x.wd
  | .num n, h => by
    have := (num_str h).2.2.1
    have h : n = 0 ∨ n = 1 ∨ n = 2 ∨ n = 3 ∨ n = 7 ∨ n = 4294967295 := h
    show (Str.ofString (toString n)).length ≤ 10 * 3
    omega
  | .name x, h => by
    have h : x = "n" ∨ x = "m" ∨ x = "k" := h
    show x.length ≤ 10 * 3
    rcases h with rfl | rfl | rfl <;> decide +kernel
  | .op s a b, h => by
    obtain ⟨hs, ha, hb⟩ : (s = "+" ∨ s = "-" ∨ s = "*" ∨ s = "<" ∨ s = "==") ∧ VOk a ∧ VOk b := h
    have la := tell_len ha
    have lb := tell_len hb
    have ls : s.length ≤ 2 := by rcases hs with rfl | rfl | rfl | rfl | rfl <;> decide +kernel
    have l1 : (Str.ofString "(").length = 1 := by decide +kernel
    have l2 : (Str.ofString ")").length = 1 := by decide +kernel
    have l3 : (Str.ofString " ").length = 1 := by decide +kernel
    have el : ∀ (c : Bool) (t : Str), (if c = true then "(" ++ t ++ ")" else t).length ≤ t.length + 2 := fun c t => by
      cases c
      · rw [if_neg Bool.false_ne_true]; omega
      · rw [if_pos rfl, Str.length_append, Str.length_append, l1, l2]; omega
    have e1 := el (brkL s a.hd) (tell a)
    have e2 := el (brkR s b.hd) (tell b)
    unfold tell
    rw [Str.length_append, Str.length_append, Str.length_append, Str.length_append, l3]
    show _ ≤ 10 * (3 + a.wd + b.wd)
    omega
section
variable {P : Program} {w : World} {K : PySem.W.Frag} {mg : Str → Option Value} {base : Heap}
def spTold (K : PySem.W.Frag) (n : Nat) : Sp := fun vs H Q _ => ∃ (v : V) (x : Val), vs = [v] ∧ x.dep < n ∧ x.wd ≤ 1000 ∧ VOk x ∧ At K H x.dt v ∧ ∀ H', Same H H' → Q (.str (tell x)) H'
theorem told_none {f : Addr} {fd : FuncData} {ps : List Str} : FnOk P w K mg base CX0 (1+0) f fd ps (spTold K 0) := by
  have no : ∀ vs H Q E, ¬ spTold K 0 vs H Q E := fun vs H Q E h => by
    obtain ⟨_, x, _, h, _⟩ := h
    omega
  exact ⟨fun vs H Q E h => absurd h (no vs H Q E), fun A outer s H args us vs Q E _ _ _ _ h => absurd h (no vs H Q E)⟩
theorem ok_told {f : Addr} {fd : FuncData} (F : Fun K "_law_told" "_law_told" s__law_told f fd) (T : Txt K mg) (n : Nat) {f__law_told : Addr} {d__law_told : FuncData} (c__law_told : Cal P w K mg base (1+n) "_law_told" ["tree"] (spTold K n) f__law_told d__law_told) : FnOk P w K mg base CX0 (1+n+1) f fd ["tree"] (spTold K (n+1)) := by
  refine F.ok sc__law_told (fun vs H Q E h => ?_) (fun cdv A outer s H vs Q E hr h => ?_)
  · obtain ⟨v, x, rfl, _⟩ := h
    rfl
  · obtain ⟨v, x, rfl, hd, hw, hx, hat, k⟩ := h
    refine ⟨_, (pss_cons (ps_if (PW.pt (pw_or (pt_cmpR op_eq (pe_ix ix_tup (pv 0) pe_int (fun _ _ => rfl)) pe_str (nomark _)) (pw_or1 (pt_cmpR op_eq (pe_ix ix_tup (pv 0) pe_int (fun _ _ => rfl)) pe_str (nomark _))))) (pss_one (ps_ret (pe_callTy (CallR.or call_str_int SkE.call_str_str) (by rfl) T.str (by decide +kernel) (pa_cons (pe_ix ix_tup (pv 0) pe_int (fun _ _ => rfl)) pa_nil)))) pss_nil)
      (pss_cons (ps_set (i := 1) sc__law_told.nd rfl (.inl rfl) (pe_call c__law_told.G (hr.mono (by omega)) (by rfl) c__law_told.m c__law_told.k c__law_told.b .nil pass0 (pa_cons (pe_ix ix_tup (pv 0) pe_int (fun _ _ => rfl)) pa_nil)))
      (pss_cons (ps_set (i := 2) sc__law_told.nd rfl (.inl rfl) (pe_call c__law_told.G (hr.mono (by omega)) (by rfl) c__law_told.m c__law_told.k c__law_told.b .nil pass0 (pa_cons (pe_ix ix_tup (pv 0) pe_int (fun _ _ => rfl)) pa_nil)))
      (Evl.pss_cut (ps_if (PW.pt (pw_or (pt_cmpR op_in_seq (pe_ix ix_tup (pe_ix ix_tup (pv 0) pe_int (fun _ _ => rfl)) pe_int (fun _ _ => rfl)) (pe_lst (pa_cons pe_str (pa_cons pe_str pa_nil))) (by rfl)) (pw_or1 (PW.pt (pw_and (pt_cmpR op_in_seq (pe_ix ix_tup (pe_ix ix_tup (pv 0) pe_int (fun _ _ => rfl)) pe_int (fun _ _ => rfl)) (pe_lst (pa_cons pe_str (pa_cons pe_str pa_nil))) (by rfl)) (pw_and1 (pt_cmpR op_eq (pe_ix ix_tup (pv 0) pe_int (fun _ _ => rfl)) pe_str (nomark _)))))))) (pss_one (ps_set (i := 1) sc__law_told.nd rfl (.inl rfl) (pe_op op_add_str (pe_op op_add_str pe_str (pv 1)) pe_str))) pss_nil)
      (pss_cons (ps_set (i := 3) sc__law_told.nd rfl (.inl rfl) (pe_ix ix_tup (pe_ix ix_tup (pv 0) pe_int (fun _ _ => rfl)) pe_int (fun _ _ => rfl)))
      (Evl.pss_cut (ps_if (PW.pt (pw_or (pt_cmpR op_in_seq (pv 3) (pe_lst (pa_cons pe_str (pa_cons pe_str pa_nil))) (by rfl)) (pw_or (PW.pt (pw_and (pt_cmpR op_in_seq (pv 3) (pe_lst (pa_cons pe_str (pa_cons pe_str pa_nil))) (by rfl)) (pw_and1 (pt_cmpR op_in_seq (pe_ix ix_tup (pv 0) pe_int (fun _ _ => rfl)) (pe_lst (pa_cons pe_str (pa_cons pe_str (pa_cons pe_str pa_nil)))) (by rfl))))) (pw_or1 (PW.pt (pw_and (pt_cmpR op_eq (pv 3) pe_str (nomark _)) (pw_and1 (pt_cmpR op_eq (pe_ix ix_tup (pv 0) pe_int (fun _ _ => rfl)) pe_str (nomark _))))))))) (pss_one (ps_set (i := 2) sc__law_told.nd rfl (.inl rfl) (pe_op op_add_str (pe_op op_add_str pe_str (pv 2)) pe_str))) pss_nil)
      (pss_one (ps_ret (pe_op op_add_str (pe_op op_add_str (pe_op op_add_str (pe_op op_add_str (pv 1) pe_str) (pe_ix ix_tup (pv 0) pe_int (fun _ _ => rfl))) pe_str) (pv 2)))))))))), ?_⟩
    cases x with
    | num nn =>
      obtain ⟨m1, m2, m3, m4⟩ := num_str hx
      unfold Val.dt at hat
      rw [At] at hat
      obtain ⟨p2, vs, rfl, hp2, hl2⟩ := hat
      simp only [AtL] at hl2
      obtain ⟨v1, r1, rfl, h1, v2, r2, rfl, h2, rfl⟩ := hl2
      unfold At at h1 h2
      subst h1
      subst h2
      refine ⟨_, rfl, p2, _, _, _, rfl, rfl, SqT.of hp2, atI_nat (j := 0) rfl, rfl, _, rfl, ?_⟩
      rw [decide_eq_true (rfl : V.str "number" = V.str "number")]
      exact iteT (iteT ⟨_, rfl, p2, _, _, _, rfl, rfl, SqT.of hp2, atI_nat (j := 1) rfl, .inl ⟨nn, rfl, m1, k H fun _ _ z => z⟩⟩)
    | name xn =>
      unfold Val.dt at hat
      rw [At] at hat
      obtain ⟨p2, vs, rfl, hp2, hl2⟩ := hat
      simp only [AtL] at hl2
      obtain ⟨v1, r1, rfl, h1, v2, r2, rfl, h2, rfl⟩ := hl2
      unfold At at h1 h2
      subst h1
      subst h2
      refine ⟨_, rfl, p2, _, _, _, rfl, rfl, SqT.of hp2, atI_nat (j := 0) rfl, rfl, _, rfl, ?_⟩
      rw [decide_eq_false (show ¬ V.str "name" = V.str "number" by decide +kernel)]
      refine iteF ⟨_, rfl, p2, _, _, _, rfl, rfl, SqT.of hp2, atI_nat (j := 0) rfl, rfl, _, rfl, ?_⟩
      rw [decide_eq_true (rfl : V.str "name" = V.str "name")]
      exact iteT ⟨_, rfl, p2, _, _, _, rfl, rfl, SqT.of hp2, atI_nat (j := 1) rfl, .inr ⟨xn, rfl, k H fun _ _ z => z⟩⟩
    | op sg' xa xb =>
      obtain ⟨hs, ha, hb⟩ : (sg' = "+" ∨ sg' = "-" ∨ sg' = "*" ∨ sg' = "<" ∨ sg' = "==") ∧ VOk xa ∧ VOk xb := hx
      have hd : max xa.dep xb.dep + 1 < n + 1 := hd
      have hw : 3 + xa.wd + xb.wd ≤ 1000 := hw
      unfold Val.dt at hat
      rw [At] at hat
      obtain ⟨p2, vs, rfl, hp2, hl2⟩ := hat
      simp only [AtL] at hl2
      obtain ⟨v1, r1, rfl, h1, v2, r2, rfl, h2, v3, r3, rfl, h3, rfl⟩ := hl2
      unfold At at h1
      subst h1
      have n1 : ¬ V.str sg' = V.str "number" := by rcases hs with rfl | rfl | rfl | rfl | rfl <;> decide +kernel
      have n2 : ¬ V.str sg' = V.str "name" := by rcases hs with rfl | rfl | rfl | rfl | rfl <;> decide +kernel
      refine ⟨_, rfl, p2, _, _, _, rfl, rfl, SqT.of hp2, atI_nat (j := 0) rfl, rfl, _, rfl, ?_⟩
      rw [decide_eq_false n1]
      refine iteF ⟨_, rfl, p2, _, _, _, rfl, rfl, SqT.of hp2, atI_nat (j := 0) rfl, rfl, _, rfl, ?_⟩
      rw [decide_eq_false n2]
      refine iteF ⟨_, rfl, p2, _, _, _, rfl, rfl, SqT.of hp2, atI_nat (j := 1) rfl, v2, xa, rfl, by omega, by omega, ha, h2, fun H1 s1 => ?_⟩
      have hp3 := s1 _ _ hp2
      refine ⟨_, rfl, p2, _, _, _, rfl, rfl, SqT.of hp3, atI_nat (j := 2) rfl, v3, xb, rfl, by omega, by omega, hb, At.keep s1 h3, fun H2 s2 => ?_⟩
      have s12 := s1.trans s2
      obtain ⟨qa, ra, rfl, hqa⟩ := val_row (At.keep s12 h2)
      obtain ⟨qb, rb, rfl, hqb⟩ := val_row (At.keep s12 h3)
      have wa := wd_pos xa
      have la := tell_len ha
      have lb := tell_len hb
      have ls : sg'.length ≤ 2 := by rcases hs with rfl | rfl | rfl | rfl | rfl <;> decide +kernel
      have l1 : (Str.ofString "(").length = 1 := by decide +kernel
      have l2 : (Str.ofString ")").length = 1 := by decide +kernel
      have l3 : (Str.ofString " ").length = 1 := by decide +kernel
      have sz : ∀ m : Nat, m ≤ 1000000 → m ≤ sizeLine := fun m h => sz9 h
      refine ⟨fun σ H' => σ = [some (.ref p2), some (.str (if brkL sg' xa.hd = true then "(" ++ tell xa ++ ")" else tell xa)), some (.str (tell xb)), none] ∧ Same H H', ?_, ?_⟩
      · refine ⟨_, rfl, p2, _, _, _, rfl, rfl, SqT.of (s12 _ _ hp2), atI_nat (j := 1) rfl, qa, _, _, _, rfl, rfl, SqT.of hqa, atI_nat (j := 0) rfl, by show 2 ≤ sizeLine; decide, fun L1 hL1 => ⟨L1, _, rfl, .inl (SqL.of upd_same), rfl, rfl, _, rfl, ?_⟩⟩
        have sL := s12.trans (same_upd (o := .lst [.str "<", .str "=="]) hL1)
        have hqa2 := same_upd (o := .lst [.str "<", .str "=="]) hL1 _ _ hqa
        refine ite2 (fun c1 => ?_) (fun c1 => ?_)
        · have c1 : inV (.str xa.hd) [.str "<", .str "=="] = true := c1
          have e : brkL sg' xa.hd = true := by unfold brkL; rw [c1]; rfl
          refine ⟨_, rfl, _, _, rfl, rfl, ?_, _, _, rfl, rfl, ?_, ?_⟩
          · rw [l1]; exact sz _ (by omega)
          · rw [Str.length_append, l1, l2]; exact sz _ (by omega)
          · rw [e]
            exact ⟨rfl, sL⟩
        · have c1 : inV (.str xa.hd) [.str "<", .str "=="] = false := Bool.not_eq_true _ ▸ c1
          refine ⟨_, rfl, p2, _, _, _, rfl, rfl, SqT.of (sL _ _ hp2), atI_nat (j := 1) rfl, qa, _, _, _, rfl, rfl, SqT.of hqa2, atI_nat (j := 0) rfl, by show 2 ≤ sizeLine; decide, fun L2 hL2 => ⟨L2, _, rfl, .inl (SqL.of upd_same), rfl, rfl, _, rfl, ?_⟩⟩
          have sM := sL.trans (same_upd (o := .lst [.str "+", .str "-"]) hL2)
          refine ite2 (fun c2 => ?_) (fun c2 => ?_)
          · have c2 : inV (.str xa.hd) [.str "+", .str "-"] = true := c2
            refine ⟨_, rfl, p2, _, _, _, rfl, rfl, SqT.of (sM _ _ hp2), atI_nat (j := 0) rfl, rfl, _, rfl, ?_⟩
            refine ite2 (fun c3 => ?_) (fun c3 => ?_)
            · have e : brkL sg' xa.hd = true := by unfold brkL; rw [c1, c2, c3]; rfl
              refine ⟨_, rfl, _, _, rfl, rfl, ?_, _, _, rfl, rfl, ?_, ?_⟩
              · rw [l1]; exact sz _ (by omega)
              · rw [Str.length_append, l1, l2]; exact sz _ (by omega)
              · rw [e]
                exact ⟨rfl, sM⟩
            · have c3 : decide (V.str sg' = V.str "*") = false := Bool.not_eq_true _ ▸ c3
              have e : brkL sg' xa.hd = false := by unfold brkL; rw [c1, c2, c3]; rfl
              rw [e]
              exact ⟨rfl, sM⟩
          · have c2 : inV (.str xa.hd) [.str "+", .str "-"] = false := Bool.not_eq_true _ ▸ c2
            have e : brkL sg' xa.hd = false := by unfold brkL; rw [c1, c2]; rfl
            rw [e]
            exact ⟨rfl, sM⟩
      · rintro σ H3 ⟨rfl, s3⟩
        generalize hTL : (if brkL sg' xa.hd = true then "(" ++ tell xa ++ ")" else tell xa) = TL
        have lTL : TL.length ≤ 10 * xa.wd + 2 := by
          rw [← hTL]
          cases brkL sg' xa.hd
          · rw [if_neg Bool.false_ne_true]; omega
          · rw [if_pos rfl, Str.length_append, Str.length_append, l1, l2]; omega
        obtain ⟨qb2, rb2, eqb, hqb2⟩ := val_row (At.keep s3 h3)
        cases eqb
        refine ⟨_, rfl, p2, _, _, _, rfl, rfl, SqT.of (s3 _ _ hp2), atI_nat (j := 2) rfl, qb, _, _, _, rfl, rfl, SqT.of hqb2, atI_nat (j := 0) rfl, ?_⟩
        refine ⟨fun σ H' => σ = [some (.ref p2), some (.str TL), some (.str (if brkR sg' xb.hd = true then "(" ++ tell xb ++ ")" else tell xb)), some (.str xb.hd)] ∧ Same H H', ?_, ?_⟩
        · refine ⟨_, rfl, by show 2 ≤ sizeLine; decide, fun L1 hL1 => ⟨L1, _, rfl, .inl (SqL.of upd_same), rfl, rfl, _, rfl, ?_⟩⟩
          have sL := s3.trans (same_upd (o := .lst [.str "<", .str "=="]) hL1)
          refine ite2 (fun c1 => ?_) (fun c1 => ?_)
          · have c1 : inV (.str xb.hd) [.str "<", .str "=="] = true := c1
            have e : brkR sg' xb.hd = true := by unfold brkR; rw [c1]; rfl
            refine ⟨_, rfl, _, _, rfl, rfl, ?_, _, _, rfl, rfl, ?_, ?_⟩
            · rw [l1]; exact sz _ (by omega)
            · rw [Str.length_append, l1, l2]; exact sz _ (by omega)
            · rw [e]
              exact ⟨rfl, sL⟩
          · have c1 : inV (.str xb.hd) [.str "<", .str "=="] = false := Bool.not_eq_true _ ▸ c1
            refine ⟨_, rfl, by show 2 ≤ sizeLine; decide, fun L2 hL2 => ⟨L2, _, rfl, .inl (SqL.of upd_same), rfl, rfl, _, rfl, ?_⟩⟩
            have sM := sL.trans (same_upd (o := .lst [.str "+", .str "-"]) hL2)
            refine ite2 (fun c2 => ?_) (fun c2 => ?_)
            · have c2 : inV (.str xb.hd) [.str "+", .str "-"] = true := c2
              refine ⟨_, rfl, p2, _, _, _, rfl, rfl, SqT.of (sM _ _ hp2), atI_nat (j := 0) rfl, by show 3 ≤ sizeLine; decide, fun L3 hL3 => ⟨L3, _, rfl, .inl (SqL.of upd_same), rfl, rfl, _, rfl, ?_⟩⟩
              have sN := sM.trans (same_upd (o := .lst [.str "+", .str "-", .str "*"]) hL3)
              refine ite2 (fun c3 => ?_) (fun c3 => ?_)
              · have c3 : inV (.str sg') [.str "+", .str "-", .str "*"] = true := c3
                have e : brkR sg' xb.hd = true := by unfold brkR; rw [c1, c2, c3]; rfl
                refine ⟨_, rfl, _, _, rfl, rfl, ?_, _, _, rfl, rfl, ?_, ?_⟩
                · rw [l1]; exact sz _ (by omega)
                · rw [Str.length_append, l1, l2]; exact sz _ (by omega)
                · rw [e]
                  exact ⟨rfl, sN⟩
              · have c3 : inV (.str sg') [.str "+", .str "-", .str "*"] = false := Bool.not_eq_true _ ▸ c3
                refine ⟨_, rfl, rfl, _, rfl, ?_⟩
                refine ite2 (fun c7 => ?_) (fun c7 => ?_)
                · refine ⟨_, rfl, p2, _, _, _, rfl, rfl, SqT.of (sN _ _ hp2), atI_nat (j := 0) rfl, rfl, _, rfl, ?_⟩
                  refine ite2 (fun c8 => ?_) (fun c8 => ?_)
                  · have e : brkR sg' xb.hd = true := by unfold brkR; rw [c1, c2, c3, c7, c8]; rfl
                    refine ⟨_, rfl, _, _, rfl, rfl, ?_, _, _, rfl, rfl, ?_, ?_⟩
                    · rw [l1]; exact sz _ (by omega)
                    · rw [Str.length_append, l1, l2]; exact sz _ (by omega)
                    · rw [e]
                      exact ⟨rfl, sN⟩
                  · have c8 : decide (V.str sg' = V.str "*") = false := Bool.not_eq_true _ ▸ c8
                    have e : brkR sg' xb.hd = false := by unfold brkR; rw [c1, c2, c3, c7, c8]; rfl
                    rw [e]
                    exact ⟨rfl, sN⟩
                · have c7 : decide (V.str xb.hd = V.str "*") = false := Bool.not_eq_true _ ▸ c7
                  have e : brkR sg' xb.hd = false := by unfold brkR; rw [c1, c2, c3, c7]; rfl
                  rw [e]
                  exact ⟨rfl, sN⟩
            · have c2 : inV (.str xb.hd) [.str "+", .str "-"] = false := Bool.not_eq_true _ ▸ c2
              refine ⟨_, rfl, rfl, _, rfl, ?_⟩
              refine ite2 (fun c7 => ?_) (fun c7 => ?_)
              · refine ⟨_, rfl, p2, _, _, _, rfl, rfl, SqT.of (sM _ _ hp2), atI_nat (j := 0) rfl, rfl, _, rfl, ?_⟩
                refine ite2 (fun c8 => ?_) (fun c8 => ?_)
                · have e : brkR sg' xb.hd = true := by unfold brkR; rw [c1, c2, c7, c8]; rfl
                  refine ⟨_, rfl, _, _, rfl, rfl, ?_, _, _, rfl, rfl, ?_, ?_⟩
                  · rw [l1]; exact sz _ (by omega)
                  · rw [Str.length_append, l1, l2]; exact sz _ (by omega)
                  · rw [e]
                    exact ⟨rfl, sM⟩
                · have c8 : decide (V.str sg' = V.str "*") = false := Bool.not_eq_true _ ▸ c8
                  have e : brkR sg' xb.hd = false := by unfold brkR; rw [c1, c2, c7, c8]; rfl
                  rw [e]
                  exact ⟨rfl, sM⟩
              · have c7 : decide (V.str xb.hd = V.str "*") = false := Bool.not_eq_true _ ▸ c7
                have e : brkR sg' xb.hd = false := by unfold brkR; rw [c1, c2, c7]; rfl
                rw [e]
                exact ⟨rfl, sM⟩
        · rintro σ H4 ⟨rfl, s4⟩
          have lTR : (if brkR sg' xb.hd = true then "(" ++ tell xb ++ ")" else tell xb).length ≤ 10 * xb.wd + 2 := by
            cases brkR sg' xb.hd
            · rw [if_neg Bool.false_ne_true]; omega
            · rw [if_pos rfl, Str.length_append, Str.length_append, l1, l2]; omega
          generalize hTR : (if brkR sg' xb.hd = true then "(" ++ tell xb ++ ")" else tell xb) = TR at lTR
          refine ⟨_, rfl, _, _, rfl, rfl, ?_, _, rfl, p2, _, _, _, rfl, rfl, SqT.of (s4 _ _ hp2), atI_nat (j := 0) rfl, _, _, rfl, rfl, ?_, _, _, rfl, rfl, ?_, _, rfl, _, _, rfl, rfl, ?_, ?_⟩
          · rw [l3]; exact sz _ (by omega)
          · rw [Str.length_append, l3]; exact sz _ (by omega)
          · simp only [Str.length_append, l3]; exact sz _ (by omega)
          · simp only [Str.length_append, l3]; exact sz _ (by omega)
          · have et : tell (.op sg' xa xb) = TL ++ " " ++ sg' ++ " " ++ TR := by
              rw [← hTL, ← hTR]
              rfl
            have q := k H4 s4
            rw [et] at q
            exact q
end
end OS

namespace OS
open PySem PySem.Spec PyProof.Rows L2
/-! ### the program's printer: brackets -/
structure PrTxt (K : PySem.W.Frag) (mg : Str → Option Value) : Prop where
  mCMP : ∃ a, mg "COMPARISONS" = some (.ref a) ∧ ∀ H, SqT K H a [.str "<", .str "=="]
  mSUM : ∃ a, mg "SUMS" = some (.ref a) ∧ ∀ H, SqT K H a [.str "+", .str "-"]
section
variable {P : Program} {w : World} {K : PySem.W.Frag} {mg : Str → Option Value} {base : Heap}
def brk (r : Bool) (s t : Str) : Bool := if r then brkR s t else brkL s t
def spNB : Sp := fun vs H Q _ => ∃ (p : Addr) (t s : Str) (r : Bool) (rest : List V), vs = [.ref p, .str s, .bl r] ∧ H p = some (.tup (.str t :: rest)) ∧ (s = "+" ∨ s = "-" ∨ s = "*" ∨ s = "<" ∨ s = "==") ∧ Q (.bl (brk r s t)) H
theorem ok_needs_brackets {f : Addr} {fd : FuncData} (F : Fun K "needs_brackets" "needs_brackets" s_needs_brackets f fd) (T : Txt K mg) (PR : PrTxt K mg) : FnOk P w K mg base CX0 1 f fd ["part", "sign", "is_right"] spNB := by
  refine F.ok sc_needs_brackets (fun vs H Q E h => ?_) (fun cdv A outer s H vs Q E hr h => ?_)
  · obtain ⟨p, t, s, r, rest, rfl, _⟩ := h
    rfl
  · obtain ⟨p, t, s, r, rest, rfl, hp, hs, k⟩ := h
    obtain ⟨aC, m_COMPARISONS, hC⟩ := PR.mCMP
    obtain ⟨aS, m_SUMS, hS⟩ := PR.mSUM
    refine ⟨_, (pss_cons (ps_if (pt_cmpR op_in_seq (pe_ix ix_tup (pv 0) pe_int (fun _ _ => rfl)) (pe_glob rfl m_COMPARISONS relR) (by rfl)) (pss_one (ps_ret pe_bl)) pss_nil)
      (pss_cons (ps_if (pt_cmpR op_in_seq (pe_ix ix_tup (pv 0) pe_int (fun _ _ => rfl)) (pe_glob rfl m_SUMS relR) (by rfl)) (pss_one (ps_ret (pe_or (pe_cmpR op_eq (pv 1) pe_str (nomark _)) (pe_one (pe_and (pv 2) (pe_one (pe_cmpR op_in_seq (pv 1) (pe_glob rfl m_SUMS relR) (by rfl)))))))) pss_nil)
      (pss_one (ps_ret (pe_and (pe_cmpR op_eq (pe_ix ix_tup (pv 0) pe_int (fun _ _ => rfl)) pe_str (nomark _)) (pe_and (pe_cmpR op_eq (pv 1) pe_str (nomark _)) (pe_one (pv 2)))))))), ?_⟩
    refine ⟨_, rfl, p, _, _, _, rfl, rfl, SqT.of hp, atI_nat (j := 0) rfl, aC, _, rfl, .inr (hC _), rfl, rfl, _, rfl, ?_⟩
    refine ite2 (fun c1 => ?_) (fun c1 => ?_)
    · have c1 : inV (.str t) [.str "<", .str "=="] = true := c1
      have e : brk r s t = true := by unfold brk brkL brkR; rw [c1]; cases r <;> rfl
      rw [e] at k
      exact k
    have c1 : inV (.str t) [.str "<", .str "=="] = false := Bool.not_eq_true _ ▸ c1
    refine ⟨_, rfl, p, _, _, _, rfl, rfl, SqT.of hp, atI_nat (j := 0) rfl, aS, _, rfl, .inr (hS _), rfl, rfl, _, rfl, ?_⟩
    refine ite2 (fun c2 => ?_) (fun c2 => ?_)
    · have c2 : inV (.str t) [.str "+", .str "-"] = true := c2
      refine ⟨_, rfl, rfl, _, rfl, ?_⟩
      refine ite2 (fun c3 => ?_) (fun c3 => ?_)
      · have e : brk r s t = true := by
          have c3' : s = "*" := by
            have := of_decide_eq_true c3
            injection this
          unfold brk brkL brkR
          rw [c1, c2, c3']
          have f1 : decide (V.str "*" = V.str "*") = true := by decide +kernel
          have f2 : inV (.str "*") [.str "+", .str "-", .str "*"] = true := by decide +kernel
          rw [f1, f2]
          cases r <;> simp
        rw [e] at k
        exact k
      · have c3 : decide (V.str s = V.str "*") = false := Bool.not_eq_true _ ▸ c3
        refine ⟨_, rfl, r, rfl, ?_⟩
        cases r with
        | true =>
          refine iteT ⟨_, rfl, aS, _, rfl, .inr (hS _), rfl, rfl, ?_⟩
          have e : brk true s t = inV (.str s) [.str "+", .str "-"] := by
            unfold brk brkR
            rw [c1, c2]
            rcases hs with rfl | rfl | rfl | rfl | rfl
            · have f1 : inV (.str "+") [.str "+", .str "-", .str "*"] = true := by decide +kernel
              have f2 : inV (.str "+") [.str "+", .str "-"] = true := by decide +kernel
              rw [f1, f2]
              simp
            · have f1 : inV (.str "-") [.str "+", .str "-", .str "*"] = true := by decide +kernel
              have f2 : inV (.str "-") [.str "+", .str "-"] = true := by decide +kernel
              rw [f1, f2]
              simp
            · exact absurd c3 (by decide +kernel)
            · simp only [if_true, Bool.false_or, Bool.true_and]
              have q : decide (V.str "<" = V.str "*") = false := by decide +kernel
              rw [q, Bool.and_false, Bool.or_false]
              decide +kernel
            · simp only [if_true, Bool.false_or, Bool.true_and]
              have q : decide (V.str "==" = V.str "*") = false := by decide +kernel
              rw [q, Bool.and_false, Bool.or_false]
              decide +kernel
          rw [e] at k
          exact k
        | false =>
          have e : brk false s t = false := by
            unfold brk brkL
            rw [c1, c2, c3]
            rfl
          rw [e] at k
          exact iteF k
    have c2 : inV (.str t) [.str "+", .str "-"] = false := Bool.not_eq_true _ ▸ c2
    refine ⟨_, rfl, p, _, _, _, rfl, rfl, SqT.of hp, atI_nat (j := 0) rfl, rfl, _, rfl, ?_⟩
    refine ite2 (fun c3 => ?_) (fun c3 => ?_)
    · refine ⟨_, rfl, rfl, _, rfl, ?_⟩
      refine ite2 (fun c4 => ?_) (fun c4 => ?_)
      · refine ⟨_, rfl, ?_⟩
        have e : brk r s t = r := by
          unfold brk brkL brkR
          rw [c1, c2, c3, c4]
          cases r <;> rfl
        rw [e] at k
        exact k
      · have c4 : decide (V.str s = V.str "*") = false := Bool.not_eq_true _ ▸ c4
        have e : brk r s t = false := by
          unfold brk brkL brkR
          rw [c1, c2, c4]
          cases r <;> simp
        rw [e] at k
        exact k
    · have c3 : decide (V.str t = V.str "*") = false := Bool.not_eq_true _ ▸ c3
      have e : brk r s t = false := by
        unfold brk brkL brkR
        rw [c1, c2, c3]
        cases r <;> simp
      rw [e] at k
      exact k
end
end OS

namespace OS
open PySem PySem.Spec PyProof.Rows L2
/-! ### the program's printer: the pieces of a value -/
inductive It where
  | txt (s : Str) | tre (x : Val)
def ItAt (K : PySem.W.Frag) (H : Hp) : It → V → Prop
  | .txt s, v => v = .str s
  | .tre x, v => At K H x.dt v
def ItsAt (K : PySem.W.Frag) (H : Hp) : List It → List V → Prop
  | [], vs => vs = []
  | i :: r, vs => ∃ v q, vs = v :: q ∧ ItAt K H i v ∧ ItsAt K H r q
def wrapI (c : Bool) (x : Val) : List It := if c = true then [.txt "(", .tre x, .txt ")"] else [.tre x]
def itsOf : Val → List It
  | .num n => [.txt (Str.ofString (toString n))]
  | .name x => [.txt x]
  | .op s a b => wrapI (brkL s a.hd) a ++ [.txt (" " ++ s ++ " ")] ++ wrapI (brkR s b.hd) b
theorem ItsAt.app {K : PySem.W.Frag} {H : Hp} : ∀ {a b : List It} {u v : List V}, ItsAt K H a u → ItsAt K H b v → ItsAt K H (a ++ b) (u ++ v)
  | [], b, u, v, ha, hb => by
    have ha : u = [] := ha
    subst ha
    exact hb
  | i :: r, b, u, v, ha, hb => by
    obtain ⟨w, q, rfl, h1, h2⟩ : ∃ w q, u = w :: q ∧ ItAt K H i w ∧ ItsAt K H r q := ha
    exact ⟨w, q ++ v, rfl, h1, h2.app hb⟩
theorem wrap_at {K : PySem.W.Frag} {H : Hp} {x : Val} {v : V} (h : At K H x.dt v) (c : Bool) : ItsAt K H (wrapI c x) (if c = true then [.str "(", v, .str ")"] else [v]) := by
  cases c
  · exact ⟨_, _, rfl, h, rfl⟩
  · exact ⟨_, _, rfl, rfl, _, _, rfl, h, _, _, rfl, rfl, rfl⟩
theorem it_keep {K : PySem.W.Frag} {H H' : Hp} (s : Same H H') : ∀ {i : It} {v : V}, ItAt K H i v → ItAt K H' i v
  | .txt _, _, h => h
  | .tre x, v, h => At.keep s (show At K H x.dt v from h)
theorem its_keep {K : PySem.W.Frag} {H H' : Hp} (s : Same H H') : ∀ {is : List It} {vs : List V}, ItsAt K H is vs → ItsAt K H' is vs
  | [], _, h => h
  | i :: r, vs, h => by
    obtain ⟨w, q, rfl, h1, h2⟩ : ∃ w q, vs = w :: q ∧ ItAt K H i w ∧ ItsAt K H r q := h
    exact ⟨w, q, rfl, it_keep s h1, its_keep s h2⟩
theorem str_ext {a b : Str} (h : a.cps.toList = b.cps.toList) : a = b := by
  cases a
  cases b
  congr 1
  exact Array.toList_inj.mp h
section
variable {P : Program} {w : World} {K : PySem.W.Frag} {mg : Str → Option Value} {base : Heap}
def spVP (K : PySem.W.Frag) : Sp := fun vs H Q _ => ∃ (v : V) (x : Val), vs = [v] ∧ VOk x ∧ At K H x.dt v ∧ ∀ l H' us, Same H H' → H l = none → H' l = some (.lst us) → ItsAt K H' (itsOf x) us → Q (.ref l) H'
theorem ok_value_pieces {f : Addr} {fd : FuncData} (F : Fun K "value_pieces" "value_pieces" s_value_pieces f fd) (T : Txt K mg) {f_needs_brackets : Addr} {d_needs_brackets : FuncData} (c_needs_brackets : Cal P w K mg base 1 "needs_brackets" ["part", "sign", "is_right"] spNB f_needs_brackets d_needs_brackets) : FnOk P w K mg base CX0 2 f fd ["tree"] (spVP K) := by
  refine F.ok sc_value_pieces (fun vs H Q E h => ?_) (fun cdv A outer s H vs Q E hr h => ?_)
  · obtain ⟨v, x, rfl, _⟩ := h
    rfl
  · obtain ⟨v, x, rfl, hx, hat, k⟩ := h
    refine ⟨_, (pss_cons (ps_if (pt_cmpR op_in_seq (pe_ix ix_tup (pv 0) pe_int (fun _ _ => rfl)) (pe_tup (pa_cons pe_str (pa_cons pe_str pa_nil))) (by rfl)) (pss_one (ps_ret (pe_lst (pa_cons (pe_callTy (CallR.or call_str_int SkE.call_str_str) (by rfl) T.str (by decide +kernel) (pa_cons (pe_ix ix_tup (pv 0) pe_int (fun _ _ => rfl)) pa_nil)) pa_nil)))) pss_nil)
      (pss_cons (ps_asg (pv 0) (pg_tup (by rfl) (pgs_cons (pg_name (i := 1) sc_value_pieces.nd rfl (.inl rfl)) (pgs_cons (pg_name (i := 2) sc_value_pieces.nd rfl (.inl rfl)) (pgs_cons (pg_name (i := 3) sc_value_pieces.nd rfl (.inl rfl)) pgs_nil)))))
      (Evl.pss_cut (ps_set (i := 4) sc_value_pieces.nd rfl (.inl rfl) (pe_ifExp (pt_val (pe_call c_needs_brackets.G (hr.mono (by decide)) (by rfl) c_needs_brackets.m c_needs_brackets.k c_needs_brackets.b .nil pass0 (pa_cons (pv 2) (pa_cons (pv 1) (pa_cons pe_bl pa_nil))))) (pe_lst (pa_cons pe_str (pa_cons (pv 2) (pa_cons pe_str pa_nil)))) (pe_lst (pa_cons (pv 2) pa_nil))))
      (pss_cons (ps_expr (pe_bm PySem.F.plainAttrs_list PySem.F.slot_list_append PySem.F.type_list_append mt_append (pv 4) (pa_cons (pe_joined (.cons pe_str (.cons (pe_fmt (pv 1)) (.cons pe_str .nil)))) pa_nil)))
      (pss_one (ps_ret (pe_op op_cat (pv 4) (pe_ifExp (pt_val (pe_call c_needs_brackets.G (hr.mono (by decide)) (by rfl) c_needs_brackets.m c_needs_brackets.k c_needs_brackets.b .nil pass0 (pa_cons (pv 3) (pa_cons (pv 1) (pa_cons pe_bl pa_nil))))) (pe_lst (pa_cons pe_str (pa_cons (pv 3) (pa_cons pe_str pa_nil)))) (pe_lst (pa_cons (pv 3) pa_nil)))))))))), ?_⟩
    cases x with
    | num nn =>
      obtain ⟨m1, m2, m3, m4⟩ := num_str hx
      unfold Val.dt at hat
      rw [At] at hat
      obtain ⟨p2, vs, rfl, hp2, hl2⟩ := hat
      simp only [AtL] at hl2
      obtain ⟨v1, r1, rfl, h1, v2, r2, rfl, h2, rfl⟩ := hl2
      unfold At at h1 h2
      subst h1
      subst h2
      refine ⟨_, rfl, p2, _, _, _, rfl, rfl, SqT.of hp2, atI_nat (j := 0) rfl, by show 2 ≤ sizeLine; decide, fun q hq => ⟨q, _, rfl, .inr (SqT.of upd_same), rfl, rfl, _, rfl, ?_⟩⟩
      refine ite2 (fun _ => ?_) (fun c => absurd (show inV (.str "number") [.str "number", .str "name"] = true by decide +kernel) c)
      have sq := same_upd (o := .tup [.str "number", .str "name"]) hq
      refine ⟨_, rfl, p2, _, _, _, rfl, rfl, SqT.of (sq _ _ hp2), atI_nat (j := 1) rfl, .inl ⟨nn, rfl, m1, by show 1 ≤ sizeLine; decide, fun l hl => ?_⟩⟩
      exact k l _ _ (sq.trans (same_upd hl)) (sq.free hl) upd_same ⟨_, _, rfl, rfl, rfl⟩
    | name xn =>
      unfold Val.dt at hat
      rw [At] at hat
      obtain ⟨p2, vs, rfl, hp2, hl2⟩ := hat
      simp only [AtL] at hl2
      obtain ⟨v1, r1, rfl, h1, v2, r2, rfl, h2, rfl⟩ := hl2
      unfold At at h1 h2
      subst h1
      subst h2
      refine ⟨_, rfl, p2, _, _, _, rfl, rfl, SqT.of hp2, atI_nat (j := 0) rfl, by show 2 ≤ sizeLine; decide, fun q hq => ⟨q, _, rfl, .inr (SqT.of upd_same), rfl, rfl, _, rfl, ?_⟩⟩
      refine ite2 (fun _ => ?_) (fun c => absurd (show inV (.str "name") [.str "number", .str "name"] = true by decide +kernel) c)
      have sq := same_upd (o := .tup [.str "number", .str "name"]) hq
      refine ⟨_, rfl, p2, _, _, _, rfl, rfl, SqT.of (sq _ _ hp2), atI_nat (j := 1) rfl, .inr ⟨xn, rfl, by show 1 ≤ sizeLine; decide, fun l hl => ?_⟩⟩
      exact k l _ _ (sq.trans (same_upd hl)) (sq.free hl) upd_same ⟨_, _, rfl, rfl, rfl⟩
    | op sg' xa xb =>
      obtain ⟨hs, ha, hb⟩ : (sg' = "+" ∨ sg' = "-" ∨ sg' = "*" ∨ sg' = "<" ∨ sg' = "==") ∧ VOk xa ∧ VOk xb := hx
      unfold Val.dt at hat
      rw [At] at hat
      obtain ⟨p2, vs, rfl, hp2, hl2⟩ := hat
      simp only [AtL] at hl2
      obtain ⟨v1, r1, rfl, h1, v2, r2, rfl, h2, v3, r3, rfl, h3, rfl⟩ := hl2
      unfold At at h1
      subst h1
      have ls : sg'.length ≤ 2 := by rcases hs with rfl | rfl | rfl | rfl | rfl <;> decide +kernel
      have l3 : (Str.ofString " ").length = 1 := by decide +kernel
      have n1 : inV (.str sg') [.str "number", .str "name"] = false := by rcases hs with rfl | rfl | rfl | rfl | rfl <;> decide +kernel
      refine ⟨_, rfl, p2, _, _, _, rfl, rfl, SqT.of hp2, atI_nat (j := 0) rfl, by show 2 ≤ sizeLine; decide, fun q hq => ⟨q, _, rfl, .inr (SqT.of upd_same), rfl, rfl, _, rfl, ?_⟩⟩
      refine ite2 (fun c => absurd (show inV (.str sg') [.str "number", .str "name"] = true from c) (by rw [n1]; exact Bool.false_ne_true)) (fun _ => ?_)
      have sq := same_upd (o := .tup [.str "number", .str "name"]) hq
      have hp3 := sq _ _ hp2
      have h2' := At.keep sq h2
      have h3' := At.keep sq h3
      obtain ⟨qa, ra, rfl, hqa⟩ := val_row h2'
      obtain ⟨qb, rb, rfl, hqb⟩ := val_row h3'
      refine ⟨_, rfl, p2, _, rfl, SqT.of hp3, rfl, _, _, rfl, _, _, rfl, _, _, rfl, rfl, ?_⟩
      have eJ : Str.empty ++ (" " : Str) ++ sg' ++ (" " : Str) = " " ++ sg' ++ " " := by
        refine str_ext ?_
        simp only [app_cps]
        have : (Str.empty).cps.toList = [] := rfl
        rw [this, List.nil_append]
      have lJ : (Str.empty).length = 0 := rfl
      refine ⟨fun σ H' => ∃ l : Addr, σ = [some (.ref p2), some (.str sg'), some (.ref qa), some (.ref qb), some (.ref l)] ∧ H' l = some (.lst (if brkL sg' xa.hd = true then [.str "(", .ref qa, .str ")"] else [.ref qa])) ∧ H l = none ∧ Same H H' ∧ At K H' xa.dt (.ref qa) ∧ At K H' xb.dt (.ref qb), ?_, ?_⟩
      · refine ⟨_, rfl, _, rfl, qa, xa.hd, sg', false, ra, rfl, hqa, hs, _, rfl, ?_⟩
        show if brkL sg' xa.hd = true then _ else _
        refine ite2 (fun c => ?_) (fun c => ?_)
        · refine ⟨_, rfl, by show 3 ≤ sizeLine; decide, fun l hl => ⟨l, rfl, ?_, sq.free hl, sq.trans (same_upd hl), At.keep (same_upd hl) h2', At.keep (same_upd hl) h3'⟩⟩
          rw [upd_same, if_pos c]
        · refine ⟨_, rfl, by show 1 ≤ sizeLine; decide, fun l hl => ⟨l, rfl, ?_, sq.free hl, sq.trans (same_upd hl), At.keep (same_upd hl) h2', At.keep (same_upd hl) h3'⟩⟩
          rw [upd_same, if_neg c]
      · rintro σ H2 ⟨l, rfl, hl, hl0, s2, ax, bx⟩
        have w1 := wrap_at ax (brkL sg' xa.hd)
        have lw : (if brkL sg' xa.hd = true then [V.str "(", .ref qa, .str ")"] else [.ref qa]).length ≤ 3 := by
          cases brkL sg' xa.hd
          · show 1 ≤ 3; decide
          · show 3 ≤ 3; decide
        generalize hU : (if brkL sg' xa.hd = true then [V.str "(", .ref qa, .str ")"] else [.ref qa]) = us at hl w1 lw
        refine ⟨_, rfl, .inl ⟨rfl, _, SqL.of hl⟩, _, rfl, ?_, _, rfl, .inl ⟨sg', rfl, sz9 (by omega), _, rfl, ?_, _, rfl, ?_, l, us, _, rfl, rfl, hl, sz6' (by omega), ?_⟩⟩
        · rw [Str.length_append, lJ, l3]; exact sz9 (by omega)
        · rw [Str.length_append, Str.length_append, lJ, l3]; exact sz9 (by omega)
        · rw [Str.length_append, Str.length_append, Str.length_append, lJ, l3]; exact sz9 (by omega)
        rw [eJ]
        have ax3 := At.offL (ys := us ++ [.str (" " ++ sg' ++ " ")]) hl (Val.noL xa) ax
        have bx3 := At.offL (ys := us ++ [.str (" " ++ sg' ++ " ")]) hl (Val.noL xb) bx
        have hl3 : (upd H2 l (.lst (us ++ [.str (" " ++ sg' ++ " ")]))) l = some (.lst (us ++ [.str (" " ++ sg' ++ " ")])) := upd_same
        have s3 : Same H (upd H2 l (.lst (us ++ [.str (" " ++ sg' ++ " ")]))) := fun b y e => by
          rw [upd_ne (ne_of_none e hl0)]
          exact s2 b y e
        have w1 := wrap_at ax3 (brkL sg' xa.hd)
        rw [hU] at w1
        generalize upd H2 l (.lst (us ++ [.str (" " ++ sg' ++ " ")])) = H3 at ax3 bx3 hl3 s3 w1
        obtain ⟨qb', rb', eqb, hqb3⟩ := val_row bx3
        cases eqb
        have fin : ∀ (l2 : Addr) (H4 : Hp), Same H3 H4 → H4 l2 = some (.lst (if brkR sg' xb.hd = true then [.str "(", .ref qb, .str ")"] else [.ref qb])) → ∃ (l' b' : Addr) (xs zs : List V), V.ref l = .ref l' ∧ V.ref l2 = .ref b' ∧ H4 l' = some (.lst xs) ∧ H4 b' = some (.lst zs) ∧ xs.length + zs.length ≤ sizeLine ∧ ∀ p, H4 p = none → Q (.ref p) (upd H4 p (.lst (xs ++ zs))) := fun l2 H4 s4 hl4 => by
          refine ⟨l, l2, _, _, rfl, rfl, s4 _ _ hl3, hl4, ?_, fun p hp => ?_⟩
          · have : (if brkR sg' xb.hd = true then [V.str "(", .ref qb, .str ")"] else [.ref qb]).length ≤ 3 := by
              cases brkR sg' xb.hd
              · show 1 ≤ 3; decide
              · show 3 ≤ 3; decide
            rw [List.length_append]
            have e1 : [V.str (" " ++ sg' ++ " ")].length = 1 := rfl
            exact sz9 (by omega)
          · have s5 := same_upd (o := .lst (us ++ [.str (" " ++ sg' ++ " ")] ++ (if brkR sg' xb.hd = true then [.str "(", .ref qb, .str ")"] else [.ref qb]))) hp
            have s35 := s4.trans s5
            refine k p _ _ (s3.trans s35) ((s3.trans s4).free hp) upd_same ?_
            have w1' := its_keep s35 w1
            have w2' := wrap_at (At.keep s35 bx3) (brkR sg' xb.hd)
            exact (w1'.app (b := [.txt (" " ++ sg' ++ " ")]) (v := [.str (" " ++ sg' ++ " ")]) ⟨_, _, rfl, rfl, rfl⟩).app w2'
        refine ⟨_, rfl, _, rfl, _, rfl, qb, xb.hd, sg', true, rb', rfl, hqb3, hs, _, rfl, ?_⟩
        show if brkR sg' xb.hd = true then _ else _
        refine ite2 (fun c => ?_) (fun c => ?_)
        · exact ⟨_, rfl, by show 3 ≤ sizeLine; decide, fun l2 hl2 => fin l2 _ (same_upd hl2) (by rw [upd_same, if_pos c])⟩
        · exact ⟨_, rfl, by show 1 ≤ sizeLine; decide, fun l2 hl2 => fin l2 _ (same_upd hl2) (by rw [upd_same, if_neg c])⟩
end
end OS

namespace OS
open PySem PySem.Spec PyProof.Rows L2
/-! ### the program's printer: print_value -/
def catL : List Str → List Nat
  | [] => []
  | s :: r => s.cps.toList ++ catL r
theorem catL_snoc : ∀ (a : List Str) (s : Str), catL (a ++ [s]) = catL a ++ s.cps.toList
  | [], s => by show s.cps.toList ++ [] = [] ++ s.cps.toList; rw [List.append_nil, List.nil_append]
  | x :: r, s => by
    show x.cps.toList ++ catL (r ++ [s]) = x.cps.toList ++ catL r ++ s.cps.toList
    rw [catL_snoc r s, List.append_assoc]
theorem catL_len : ∀ (a : List Str), (a.map (·.length)).sum = (catL a).length
  | [] => rfl
  | x :: r => by
    rw [List.map_cons, List.sum_cons, catL_len r]
    show x.length + _ = (x.cps.toList ++ catL r).length
    rw [List.length_append, len_cps]
theorem join_cat : ∀ ts : List Str, (PySem.Str.join "" ts).cps.toList = catL ts
  | [] => by
    show (Str.ofString "").cps.toList = []
    decide +kernel
  | [x] => by
    show x.cps.toList = x.cps.toList ++ []
    rw [List.append_nil]
  | x :: y :: r => by
    show (x ++ (Str.ofString "") ++ PySem.Str.join "" (y :: r)).cps.toList = _
    rw [app_cps, app_cps, join_cat (y :: r)]
    have e : (Str.ofString "").cps.toList = [] := by decide +kernel
    rw [e, List.append_nil]
    rfl
theorem join_is {ts : List Str} {z : Str} (h : catL ts = z.cps.toList) : PySem.Txt.join "" ts = z := by
  have e : PySem.Txt.join "" ts = PySem.Str.join "" ts := StrLaws.glued_eq_join "" ts
  rw [e]
  exact str_ext ((join_cat ts).trans h)
def It.told : It → Str
  | .txt s => s
  | .tre x => tell x
def toldL : List It → List Nat
  | [] => []
  | i :: r => i.told.cps.toList ++ toldL r
theorem toldL_app : ∀ (a b : List It), toldL (a ++ b) = toldL a ++ toldL b
  | [], b => rfl
  | x :: r, b => by
    show x.told.cps.toList ++ toldL (r ++ b) = x.told.cps.toList ++ toldL r ++ toldL b
    rw [toldL_app r b, List.append_assoc]
def It.sz : It → Nat
  | .txt _ => 1
  | .tre x => 4 * x.wd
def szL : List It → Nat
  | [] => 0
  | i :: r => i.sz + szL r
theorem szL_app : ∀ (a b : List It), szL (a ++ b) = szL a + szL b
  | [], b => by show szL b = 0 + szL b; omega
  | x :: r, b => by
    show x.sz + szL (r ++ b) = x.sz + szL r + szL b
    rw [szL_app r b]
    omega
def It.ok : It → Prop
  | .txt _ => True
  | .tre x => VOk x
def okL : List It → Prop
  | [] => True
  | i :: r => i.ok ∧ okL r
theorem okL_app : ∀ {a b : List It}, okL a → okL b → okL (a ++ b)
  | [], _, _, h => h
  | _ :: _, _, h, h2 => ⟨h.1, okL_app h.2 h2⟩
theorem wrap_told (c : Bool) (x : Val) : toldL (wrapI c x) = (if c = true then "(" ++ tell x ++ ")" else tell x).cps.toList := by
  cases c
  · show (tell x).cps.toList ++ [] = (tell x).cps.toList
    rw [List.append_nil]
  · show (Str.ofString "(").cps.toList ++ ((tell x).cps.toList ++ ((Str.ofString ")").cps.toList ++ [])) = ((Str.ofString "(") ++ tell x ++ (Str.ofString ")")).cps.toList
    rw [app_cps, app_cps, List.append_nil, List.append_assoc]
theorem its_told : ∀ (x : Val), toldL (itsOf x) = (tell x).cps.toList
  | .num n => by show _ ++ [] = _; rw [List.append_nil]; rfl
  | .name x => by show _ ++ [] = _; rw [List.append_nil]; rfl
  | .op s a b => by
    have e : tell (.op s a b) = (if brkL s a.hd = true then "(" ++ tell a ++ ")" else tell a) ++ " " ++ s ++ " " ++ (if brkR s b.hd = true then "(" ++ tell b ++ ")" else tell b) := rfl
    show toldL (wrapI (brkL s a.hd) a ++ [.txt (" " ++ s ++ " ")] ++ wrapI (brkR s b.hd) b) = _
    rw [toldL_app, toldL_app, wrap_told, wrap_told, e]
    generalize (if brkL s a.hd = true then "(" ++ tell a ++ ")" else tell a) = u
    generalize (if brkR s b.hd = true then "(" ++ tell b ++ ")" else tell b) = v
    have e1 : toldL [.txt ((Str.ofString " ") ++ s ++ (Str.ofString " "))] = ((Str.ofString " ") ++ s ++ (Str.ofString " ")).cps.toList := by
      show _ ++ [] = _
      rw [List.append_nil]
      rfl
    show u.cps.toList ++ toldL [.txt ((Str.ofString " ") ++ s ++ (Str.ofString " "))] ++ v.cps.toList = (u ++ (Str.ofString " ") ++ s ++ (Str.ofString " ") ++ v).cps.toList
    rw [e1]
    simp only [app_cps, List.append_assoc]
theorem wrap_sz (c : Bool) (x : Val) : szL (wrapI c x) ≤ 4 * x.wd + 2 := by
  cases c
  · show 4 * x.wd + 0 ≤ _
    omega
  · show 1 + (4 * x.wd + (1 + 0)) ≤ _
    omega
theorem its_sz : ∀ (x : Val), szL (itsOf x) < 4 * x.wd
  | .num n => by show 1 + 0 < 4 * 3; decide
  | .name x => by show 1 + 0 < 4 * 3; decide
  | .op s a b => by
    show szL (wrapI (brkL s a.hd) a ++ [.txt (" " ++ s ++ " ")] ++ wrapI (brkR s b.hd) b) < 4 * (3 + a.wd + b.wd)
    rw [szL_app, szL_app]
    have h1 := wrap_sz (brkL s a.hd) a
    have h2 := wrap_sz (brkR s b.hd) b
    have e1 : szL [.txt (" " ++ s ++ " ")] = 1 := rfl
    omega
theorem wrap_ok {x : Val} (h : VOk x) (c : Bool) : okL (wrapI c x) := by
  cases c
  · exact ⟨h, trivial⟩
  · exact ⟨trivial, h, trivial, trivial⟩
theorem its_ok : ∀ {x : Val}, VOk x → okL (itsOf x)
  | .num n, _ => ⟨trivial, trivial⟩
  | .name x, _ => ⟨trivial, trivial⟩
  | .op s a b, h => by
    obtain ⟨_, ha, hb⟩ : (s = "+" ∨ s = "-" ∨ s = "*" ∨ s = "<" ∨ s = "==") ∧ VOk a ∧ VOk b := h
    exact okL_app (okL_app (wrap_ok ha _) ⟨trivial, trivial⟩) (wrap_ok hb _)
theorem it_pos : ∀ i : It, 1 ≤ i.sz
  | .txt _ => Nat.le_refl _
  | .tre x => by
    have := wd_pos x
    show 1 ≤ 4 * x.wd
    omega
theorem its_len {K : PySem.W.Frag} {H : Hp} : ∀ {is : List It} {us : List V}, ItsAt K H is us → us.length ≤ szL is
  | [], us, h => by
    have h : us = [] := h
    subst h
    exact Nat.le_refl _
  | i :: r, us, h => by
    obtain ⟨v, q, rfl, _, h2⟩ : ∃ v q, us = v :: q ∧ ItAt K H i v ∧ ItsAt K H r q := h
    have := its_len h2
    have := it_pos i
    show q.length + 1 ≤ i.sz + szL r
    omega
theorem it_offL {K : PySem.W.Frag} {H : Hp} {a : Addr} {xs ys : List V} (ha : H a = some (.lst xs)) : ∀ {i : It} {v : V}, ItAt K H i v → ItAt K (upd H a (.lst ys)) i v
  | .txt _, _, h => h
  | .tre x, v, h => At.offL ha (Val.noL x) (show At K H x.dt v from h)
theorem its_offL {K : PySem.W.Frag} {H : Hp} {a : Addr} {xs ys : List V} (ha : H a = some (.lst xs)) : ∀ {is : List It} {vs : List V}, ItsAt K H is vs → ItsAt K (upd H a (.lst ys)) is vs
  | [], _, h => h
  | i :: r, vs, h => by
    obtain ⟨w, q, rfl, h1, h2⟩ : ∃ w q, vs = w :: q ∧ ItAt K H i w ∧ ItsAt K H r q := h
    exact ⟨w, q, rfl, it_offL ha h1, its_offL ha h2⟩
theorem same_off {H H' : Hp} {p : Addr} {o : HO} (h : H p = none) (s : Same H H') : Same H (upd H' p o) := fun b x e => by
  rw [upd_ne (ne_of_none e h)]
  exact s b x e
theorem last_app (q : List V) (v : V) : (q ++ [v])[(q ++ [v]).length - 1]? = some v := by
  rw [← List.getLast?_eq_getElem?]
  simp
section
variable {P : Program} {w : World} {K : PySem.W.Frag} {mg : Str → Option Value} {base : Heap}
def spPrV (K : PySem.W.Frag) : Sp := fun vs H Q _ => ∃ (v : V) (x : Val), vs = [v] ∧ VOk x ∧ x.wd ≤ 1000 ∧ At K H x.dt v ∧ ∀ H', Same H H' → Q (.str (tell x)) H'
theorem ok_print_value {f : Addr} {fd : FuncData} (F : Fun K "print_value" "print_value" s_print_value f fd) (T : Txt K mg) {f_value_pieces : Addr} {d_value_pieces : FuncData} (c_value_pieces : Cal P w K mg base 2 "value_pieces" ["tree"] (spVP K) f_value_pieces d_value_pieces) : FnOk P w K mg base CX0 3 f fd ["tree"] (spPrV K) := by
  refine F.ok sc_print_value (fun vs H Q E h => ?_) (fun cdv A outer s H vs Q E hr h => ?_)
  · obtain ⟨v, x, rfl, _⟩ := h
    rfl
  · obtain ⟨v, x, rfl, hx, hw, hat, k⟩ := h
    have hlen := tell_len hx
    refine ⟨_, (pss_cons (ps_set (i := 1) sc_print_value.nd rfl (.inl rfl) (pe_lst pa_nil))
      (pss_cons (ps_set (i := 2) sc_print_value.nd rfl (.inl rfl) (pe_lst (pa_cons (pv 0) pa_nil)))
      (pss_cons (ps_while PassesOwn.never (pt_truth (pv 2) (by intro _; rfl)) (pss_cons (ps_set (i := 3) sc_print_value.nd rfl (.inl rfl) (pe_bm0 PySem.F.plainAttrs_list PySem.F.slot_list_pop PySem.F.type_list_pop mt_pop (pv 2)))
      (pss_one (ps_if (pt_val (pe_callB call_isi (by rfl) T.isinstance (by decide +kernel) (pa_cons (pv 3) (pa_cons (pe_bltn (v := .ty "str") (u := Value.type "str") (by rfl) T.str (by decide +kernel) rfl) pa_nil)))) (pss_one (ps_expr (pe_bm PySem.F.plainAttrs_list PySem.F.slot_list_append PySem.F.type_list_append mt_append (pv 1) (pa_cons (pv 3) pa_nil)))) (pss_one (ps_expr (pe_bm PySem.F.plainAttrs_list PySem.F.slot_list_extend PySem.F.type_list_extend mt_extend (pv 2) (pa_cons (pe_revL (pe_call c_value_pieces.G (hr.mono (by decide)) (by rfl) c_value_pieces.m c_value_pieces.k c_value_pieces.b .nil pass0 (pa_cons (pv 3) pa_nil))) pa_nil))))))))
      (pss_one (ps_ret (pe_join pe_str (pv 1))))))), ?_⟩
    refine ⟨Nat.zero_le _, fun tl htl => ?_⟩
    refine ⟨_, rfl, by show 1 ≤ sizeLine; decide, fun wl hwl => ?_⟩
    have s1 := same_upd (o := .lst []) htl
    have hne : tl ≠ wl := ne_of_none upd_same hwl
    have hwl0 : H wl = none := s1.free hwl
    have s2 : Same H (upd (upd H tl (.lst [])) wl (.lst [v])) := s1.trans (same_upd hwl)
    have wp := wd_pos x
    refine ⟨fun m σ H' => ∃ (ts : List Str) (is : List It) (us : List V) (y : Option V), σ = [some v, some (.ref tl), some (.ref wl), y] ∧ H' tl = some (.lst (ts.map V.str)) ∧ H' wl = some (.lst us.reverse) ∧ ItsAt K H' is us ∧ okL is ∧ catL ts ++ toldL is = (tell x).cps.toList ∧ m = szL is ∧ ts.length + szL is ≤ 4000 ∧ Same H H',
      ⟨4 * x.wd, [], [.tre x], [v], none, rfl, ?_, upd_same, ⟨v, [], rfl, At.keep s2 hat, rfl⟩, ⟨hx, trivial⟩, ?_, rfl, ?_, s2⟩, ?_⟩
    · rw [upd_ne hne]
      exact upd_same
    · show [] ++ ((tell x).cps.toList ++ []) = _
      rw [List.append_nil, List.nil_append]
    · show 0 + (4 * x.wd + 0) ≤ 4000
      omega
    rintro m σ H1 ⟨ts, is, us, y, rfl, hT, hW, hI, hok, hcat, rfl, hsz, s3⟩
    cases is with
    | nil =>
      have hI : us = [] := hI
      subst hI
      refine ⟨_, rfl, false, .inl ⟨_, SqL.of hW, rfl⟩, ?_⟩
      refine iteF ⟨⟨_, rfl⟩, _, rfl, "", tl, ts, rfl, rfl, .inl (SqL.of hT), ?_, ?_⟩
      · have e : toldL [] = [] := rfl
        rw [e, List.append_nil] at hcat
        rw [catL_len, hcat, ← len_cps]
        have e0 : (Str.ofString "").length = 0 := by decide +kernel
        show _ + ts.length * (Str.ofString "").length ≤ _
        rw [e0]
        omega
      · have e : toldL [] = [] := rfl
        rw [e, List.append_nil] at hcat
        have q := k H1 s3
        rw [← join_is hcat] at q
        exact q
    | cons i r =>
      obtain ⟨u, q, rfl, hi, hr2⟩ : ∃ u q, us = u :: q ∧ ItAt K H1 i u ∧ ItsAt K H1 r q := hI
      have ip := it_pos i
      have hsz : ts.length + (i.sz + szL r) ≤ 4000 := hsz
      rw [List.reverse_cons] at hW
      refine ⟨_, rfl, true, .inl ⟨_, SqL.of hW, by simp⟩, ?_⟩
      refine iteT ⟨fun σ' H' => ∃ m', m' < szL (i :: r) ∧ ∃ (ts : List Str) (is : List It) (us : List V) (y : Option V), σ' = [some v, some (.ref tl), some (.ref wl), y] ∧ H' tl = some (.lst (ts.map V.str)) ∧ H' wl = some (.lst us.reverse) ∧ ItsAt K H' is us ∧ okL is ∧ catL ts ++ toldL is = (tell x).cps.toList ∧ m' = szL is ∧ ts.length + szL is ≤ 4000 ∧ Same H H', fun σ' H' h => h, ?_⟩
      refine ⟨_, rfl, .inl ⟨rfl, _, SqL.of hW⟩, wl, _, u, rfl, rfl, hW, last_app _ _, ?_⟩
      rw [List.dropLast_concat]
      have hT2 : (upd H1 wl (.lst q.reverse)) tl = some (.lst (ts.map V.str)) := by rw [upd_ne hne]; exact hT
      have hi2 := it_offL (ys := q.reverse) hW hi
      have hr2 := its_offL (ys := q.reverse) hW hr2
      have s4 : Same H (upd H1 wl (.lst q.reverse)) := same_off hwl0 s3
      have hW2 : (upd H1 wl (.lst q.reverse)) wl = some (.lst q.reverse) := upd_same
      generalize upd H1 wl (.lst q.reverse) = H2 at hT2 hi2 hr2 s4 hW2
      cases i with
      | txt z =>
        have hi2 : u = .str z := hi2
        subst hi2
        refine ⟨_, rfl, _, _, .type "str", .type "str", true, rfl, .ty _, .base (.str z), kit_ty (by decide +kernel), true, rfl, iteT ?_⟩
        refine ⟨_, rfl, .inl ⟨rfl, _, SqL.of hT2⟩, _, rfl, tl, _, _, rfl, rfl, hT2, ?_, ?_⟩
        · rw [List.length_map]
          exact sz6' (by omega)
        refine ⟨szL r, ?_, ts ++ [z], r, q, _, rfl, ?_, ?_, its_offL hT2 hr2, hok.2, ?_, rfl, ?_, same_off htl s4⟩
        · show szL r < 1 + szL r
          omega
        · rw [upd_same, List.map_append]
          rfl
        · rw [upd_ne hne.symm]
          exact hW2
        · rw [catL_snoc, List.append_assoc]
          exact hcat
        · rw [List.length_append]
          have hsz : ts.length + (1 + szL r) ≤ 4000 := hsz
          show ts.length + 1 + szL r ≤ 4000
          omega
      | tre xx =>
        have hi2 : At K H2 xx.dt u := hi2
        obtain ⟨a0, r0, rfl, ha0⟩ := val_row hi2
        refine ⟨_, rfl, _, _, .type "tuple", .type "str", false, rfl, .ty _, .base (.tup ha0), kit_ty (by decide +kernel), false, rfl, iteF ?_⟩
        refine ⟨_, rfl, .inl ⟨rfl, _, SqL.of hW2⟩, _, rfl, _, xx, rfl, hok.1, hi2, fun l H3 us3 s5 hl0 hl3 hI3 => ?_⟩
        refine ⟨l, us3, rfl, SqL.of hl3, fun p hp => ?_⟩
        have s6 := s5.trans (same_upd (o := .lst us3.reverse) hp)
        have hW3 := s6 _ _ hW2
        have hT3 := s6 _ _ hT2
        have hI4 := its_keep (same_upd (o := .lst us3.reverse) hp) hI3
        have hr4 := its_keep s6 hr2
        have i1 := its_len hI4
        have i2 := its_len hr4
        have i3 := its_sz xx
        have hsz : ts.length + (4 * xx.wd + szL r) ≤ 4000 := hsz
        refine ⟨wl, p, _, _, rfl, rfl, hW3, upd_same, ?_, ?_⟩
        · rw [List.length_reverse, List.length_reverse]
          exact sz6 (by omega)
        refine ⟨szL (itsOf xx ++ r), ?_, ts, itsOf xx ++ r, us3 ++ q, _, rfl, ?_, ?_, ?_, okL_app (its_ok hok.1) hok.2, ?_, rfl, ?_, same_off hwl0 (s4.trans s6)⟩
        · rw [szL_app]
          show _ < 4 * xx.wd + szL r
          omega
        · rw [upd_ne hne]
          exact hT3
        · rw [upd_same, List.reverse_append]
        · exact (its_offL hW3 hI4).app (its_offL hW3 hr4)
        · rw [toldL_app, its_told]
          exact hcat
        · rw [szL_app]
          omega
end
end OS

namespace OS
open PySem PySem.Spec PyProof.Rows L2
/-! ### the program's printer: pieces of statements, blocks, trees -/
inductive Pc where
  | wrd (s : Str) (k : Srt) | val (x : Val) | blk (b : List Stm)
def PcAt (K : PySem.W.Frag) (H : Hp) : Pc → V → Prop
  | .wrd s _, v => v = .str s
  | .val x, v => v = .str (tell x)
  | .blk b, v => At K H (blkDt b) v
def PcsAt (K : PySem.W.Frag) (H : Hp) : List Pc → List V → Prop
  | [], vs => vs = []
  | i :: r, vs => ∃ v q, vs = v :: q ∧ PcAt K H i v ∧ PcsAt K H r q
theorem pcn {K : PySem.W.Frag} {H : Hp} : PcsAt K H [] [] := rfl
theorem pcc {K : PySem.W.Frag} {H : Hp} {i : Pc} {r : List Pc} {v : V} {q : List V} (h : PcAt K H i v) (hr : PcsAt K H r q) : PcsAt K H (i :: r) (v :: q) := ⟨v, q, rfl, h, hr⟩
theorem PcsAt.app {K : PySem.W.Frag} {H : Hp} : ∀ {a b : List Pc} {u v : List V}, PcsAt K H a u → PcsAt K H b v → PcsAt K H (a ++ b) (u ++ v)
  | [], b, u, v, ha, hb => by
    have ha : u = [] := ha
    subst ha
    exact hb
  | i :: r, b, u, v, ha, hb => by
    obtain ⟨w, q, rfl, h1, h2⟩ : ∃ w q, u = w :: q ∧ PcAt K H i w ∧ PcsAt K H r q := ha
    exact ⟨w, q ++ v, rfl, h1, h2.app hb⟩
theorem pc_keep {K : PySem.W.Frag} {H H' : Hp} (s : Same H H') : ∀ {i : Pc} {v : V}, PcAt K H i v → PcAt K H' i v
  | .wrd _ _, _, h => h
  | .val _, _, h => h
  | .blk b, v, h => At.keep s (show At K H (blkDt b) v from h)
theorem pcs_keep {K : PySem.W.Frag} {H H' : Hp} (s : Same H H') : ∀ {is : List Pc} {vs : List V}, PcsAt K H is vs → PcsAt K H' is vs
  | [], _, h => h
  | i :: r, vs, h => by
    obtain ⟨w, q, rfl, h1, h2⟩ : ∃ w q, vs = w :: q ∧ PcAt K H i w ∧ PcsAt K H r q := h
    exact ⟨w, q, rfl, pc_keep s h1, pcs_keep s h2⟩
theorem blkDt_noL (b : List Stm) : noL (blkDt b) = true := by
  unfold blkDt noL
  exact blk_noL b
theorem pc_offL {K : PySem.W.Frag} {H : Hp} {a : Addr} {xs ys : List V} (ha : H a = some (.lst xs)) : ∀ {i : Pc} {v : V}, PcAt K H i v → PcAt K (upd H a (.lst ys)) i v
  | .wrd _ _, _, h => h
  | .val _, _, h => h
  | .blk b, v, h => At.offL ha (blkDt_noL b) (show At K H (blkDt b) v from h)
theorem pcs_offL {K : PySem.W.Frag} {H : Hp} {a : Addr} {xs ys : List V} (ha : H a = some (.lst xs)) : ∀ {is : List Pc} {vs : List V}, PcsAt K H is vs → PcsAt K (upd H a (.lst ys)) is vs
  | [], _, h => h
  | i :: r, vs, h => by
    obtain ⟨w, q, rfl, h1, h2⟩ : ∃ w q, vs = w :: q ∧ PcAt K H i w ∧ PcsAt K H r q := h
    exact ⟨w, q, rfl, pc_offL ha h1, pcs_offL ha h2⟩
theorem pcs_len {K : PySem.W.Frag} {H : Hp} : ∀ {is : List Pc} {us : List V}, PcsAt K H is us → us.length = is.length
  | [], us, h => by
    have h : us = [] := h
    subst h
    rfl
  | i :: r, us, h => by
    obtain ⟨v, q, rfl, _, h2⟩ : ∃ v q, us = v :: q ∧ PcAt K H i v ∧ PcsAt K H r q := h
    rw [List.length_cons, List.length_cons, pcs_len h2]
def wN (x : Str) : Pc := .wrd x .name
def wS (x : Str) : Pc := .wrd x .sign
def wK (x : Str) : Pc := .wrd x .word
def commaPL : List Str → List Pc
  | [] => []
  | y :: r => wS "," :: wN y :: commaPL r
def commaP : List Str → List Pc
  | [] => []
  | x :: r => wN x :: commaPL r
def commaSL : List Str → List V
  | [] => []
  | y :: r => .str "," :: .str y :: commaSL r
theorem commaSL_snoc : ∀ (a : List Str) (y : Str), commaSL (a ++ [y]) = commaSL a ++ [.str ",", .str y]
  | [], y => rfl
  | x :: r, y => by
    show V.str "," :: .str x :: commaSL (r ++ [y]) = .str "," :: .str x :: (commaSL r ++ [.str ",", .str y])
    rw [commaSL_snoc r y]
theorem commaSL_len : ∀ (a : List Str), (commaSL a).length = 2 * a.length
  | [] => rfl
  | x :: r => by
    show (commaSL r).length + 1 + 1 = 2 * (r.length + 1)
    rw [commaSL_len r]
    omega
theorem commaPL_at {K : PySem.W.Frag} {H : Hp} : ∀ (a : List Str), PcsAt K H (commaPL a) (commaSL a)
  | [] => rfl
  | x :: r => pcc rfl (pcc rfl (commaPL_at r))
theorem commaP_at {K : PySem.W.Frag} {H : Hp} : ∀ (a : List Str), PcsAt K H (commaP a) ((commaSL a).drop 1)
  | [] => rfl
  | x :: r => pcc rfl (commaPL_at r)
theorem commaPL_len : ∀ (a : List Str), (commaPL a).length = 2 * a.length
  | [] => rfl
  | x :: r => by
    show (commaPL r).length + 1 + 1 = 2 * (r.length + 1)
    rw [commaPL_len r]
    omega
theorem commaP_len : ∀ (a : List Str), (commaP a).length ≤ 2 * a.length
  | [] => Nat.le_refl _
  | x :: r => by
    show (commaPL r).length + 1 ≤ 2 * (r.length + 1)
    rw [commaPL_len r]
    omega
theorem cut_tail (xs : List V) : cutV xs (some 1) none = xs.drop 1 := by
  unfold cutV
  have e1 : HT.sIx xs.length 0 (some 1) = min 1 xs.length := HT.sIx_nat xs.length 0 1
  rw [e1, HT.sIx_none]
  cases xs with
  | nil => rfl
  | cons x r =>
    have e2 : min 1 (x :: r).length = 1 := by rw [List.length_cons]; omega
    rw [e2, List.take_of_length_le]
    rw [List.length_drop]
    exact Nat.le_refl _
def stmP : Stm → List Pc
  | .msg a b l v x => [wN a, wS "->", wN b, wS ":", wN l, wS "(", .val v, wS ")", wK "as", wN x]
  | .set e x v => [wN e, wK "sets", wN x, wS "=", .val v]
  | .ask e x => [wN e, wK "asks", wN x]
  | .call p cs => [wK "call", wN p, wS "("] ++ commaP cs ++ [wS ")"]
  | .ite e v yes no => [wK "if", wN e, wS ":", .val v, .blk yes] ++ [wK "else", .blk no]
  | .whl e v b => [wK "while", wN e, wS ":", .val v, .blk b]
def blkP : List Stm → List Pc
  | [] => []
  | s :: r => stmP s ++ blkP r
theorem blkP_snoc : ∀ (b : List Stm) (s : Stm), blkP (b ++ [s]) = blkP b ++ stmP s
  | [], s => by show stmP s ++ [] = [] ++ stmP s; rw [List.append_nil, List.nil_append]
  | x :: r, s => by
    show stmP x ++ blkP (r ++ [s]) = stmP x ++ blkP r ++ stmP s
    rw [blkP_snoc r s, List.append_assoc]
theorem stmP_len : ∀ (s : Stm), (stmP s).length ≤ s.wd
  | .msg a b l v x => by
    have := wd_pos v
    show 10 ≤ 9 + v.wd
    omega
  | .set e x v => by
    have := wd_pos v
    show 5 ≤ 4 + v.wd
    omega
  | .ask e x => Nat.le_refl _
  | .call p cs => by
    have := commaP_len cs
    show ([wK "call", wN p, wS "("] ++ commaP cs ++ [wS ")"]).length ≤ 4 + 2 * cs.length
    rw [List.length_append, List.length_append]
    show 3 + _ + 1 ≤ _
    omega
  | .ite e v yes no => by
    have := wd_pos v
    show 7 ≤ 4 + v.wd + (2 + blkWd yes) + (2 + blkWd no)
    omega
  | .whl e v b => by
    have := wd_pos v
    show 5 ≤ 3 + v.wd + (2 + blkWd b)
    omega
theorem blkP_len : ∀ (b : List Stm), (blkP b).length ≤ blkWd b
  | [] => Nat.le_refl _
  | s :: r => by
    have := stmP_len s
    have := blkP_len r
    show (stmP s ++ blkP r).length ≤ s.wd + blkWd r
    rw [List.length_append]
    omega
section
variable {P : Program} {w : World} {K : PySem.W.Frag} {mg : Str → Option Value} {base : Heap}
def spWC (K : PySem.W.Frag) : Sp := fun vs H Q _ => ∃ (q : Addr) (es : List Str), vs = [.ref q] ∧ H q = some (.tup (es.map V.str)) ∧ es.length ≤ 20000 ∧ ∀ l H', Same H H' → H l = none → H' l = some (.lst ((commaSL es).drop 1)) → Q (.ref l) H'
theorem ok_with_commas {f : Addr} {fd : FuncData} (F : Fun K "with_commas" "with_commas" s_with_commas f fd) (T : Txt K mg) : FnOk P w K mg base CX0 1 f fd ["names"] (spWC K) := by
  refine F.ok sc_with_commas (fun vs H Q E h => ?_) (fun cdv A outer s H vs Q E hr h => ?_)
  · obtain ⟨q, es, rfl, _⟩ := h
    rfl
  · obtain ⟨q, es, rfl, hq, hl, k⟩ := h
    refine ⟨_, (pss_cons (ps_set (i := 1) sc_with_commas.nd rfl (.inl rfl) (pe_lst pa_nil))
      (pss_cons (ps_for PassesOwn.never rfl (pi_tup (pv 0)) (pg_name (i := 2) sc_with_commas.nd rfl (.inl rfl)) (pss_one (ps_expr (pe_bm PySem.F.plainAttrs_list PySem.F.slot_list_extend PySem.F.type_list_extend mt_extend (pv 1) (pa_cons (pe_lst (pa_cons pe_str (pa_cons (pv 2) pa_nil))) pa_nil)))))
      (pss_one (ps_ret (pe_slice sl_list (pv 1) (po_some pe_int) po_none))))), ?_⟩
    refine ⟨Nat.zero_le _, fun l hl0 => ?_⟩
    have s1 := same_upd (o := .lst []) hl0
    refine ⟨_, rfl, q, rfl, ⟨_, SqT.of (s1 _ _ hq)⟩, for_tup (K := K) (a := q) (xs := es.map V.str) (fun i σ H' => ∃ y : Option V, σ = [some (.ref q), some (.ref l), y] ∧ H' l = some (.lst (commaSL (es.take i))) ∧ Same H H')
      ⟨none, rfl, upd_same, s1⟩ (fun i σ H' _ ⟨_, _, _, s⟩ => SqT.of (s _ _ hq)) ?_ ?_⟩
    · rintro i u σ H1 hi ⟨y, rfl, h1, s⟩
      rw [List.getElem?_map] at hi
      obtain ⟨e, he, rfl⟩ : ∃ e, es[i]? = some e ∧ u = .str e := by
        cases q : es[i]? with
        | none => rw [q] at hi; cases hi
        | some e => rw [q] at hi; exact ⟨e, rfl, (Option.some.inj hi).symm⟩
      refine ⟨_, rfl, .inl ⟨rfl, _, SqL.of h1⟩, _, rfl, by show 2 ≤ sizeLine; decide, fun b hb => ?_⟩
      have s2 := same_upd (o := .lst [.str ",", .str e]) hb
      have etk : es.take (i + 1) = es.take i ++ [e] := by
        rw [List.take_add_one, he]
        rfl
      refine ⟨l, b, _, _, rfl, rfl, s2 _ _ h1, upd_same, ?_, _, rfl, ?_, same_off hl0 (s.trans s2)⟩
      · rw [commaSL_len, List.length_take]
        show _ + 2 ≤ _
        exact sz6 (by omega)
      · rw [upd_same, etk, commaSL_snoc]
    · rintro σ H1 ⟨y, rfl, h1, s⟩
      rw [List.length_map, List.take_length] at h1
      refine ⟨_, rfl, _, rfl, _, _, rfl, SqL.of h1, fun p hp => ?_⟩
      refine k p _ (s.trans (same_upd hp)) (s.free hp) ?_
      rw [upd_same]
      show some (HO.lst (cutV (commaSL es) (some 1) none)) = _
      rw [cut_tail]
def spSP (K : PySem.W.Frag) : Sp := fun vs H Q _ => ∃ (v : V) (x : Stm), vs = [v] ∧ SOk x ∧ x.wd ≤ 20000 ∧ At K H x.dt v ∧ ∀ l H' us, Same H H' → H l = none → H' l = some (.lst us) → PcsAt K H' (stmP x) us → Q (.ref l) H'
theorem ok_statement_pieces {f : Addr} {fd : FuncData} (F : Fun K "statement_pieces" "statement_pieces" s_statement_pieces f fd) (T : Txt K mg) {f_print_value : Addr} {d_print_value : FuncData} (c_print_value : Cal P w K mg base 3 "print_value" ["tree"] (spPrV K) f_print_value d_print_value) {f_with_commas : Addr} {d_with_commas : FuncData} (c_with_commas : Cal P w K mg base 1 "with_commas" ["names"] (spWC K) f_with_commas d_with_commas) : FnOk P w K mg base CX0 4 f fd ["statement"] (spSP K) := by
  refine F.ok sc_statement_pieces (fun vs H Q E h => ?_) (fun cdv A outer s H vs Q E hr h => ?_)
  · obtain ⟨v, x, rfl, _⟩ := h
    rfl
  · obtain ⟨v, x, rfl, hx, hw, hu, k⟩ := h
    refine ⟨_, (pss_cons (ps_set (i := 1) sc_statement_pieces.nd rfl (.inl rfl) (pe_ix ix_tup (pv 0) pe_int (fun _ _ => rfl)))
      (pss_cons (ps_if (pt_cmpR op_eq (pv 1) pe_str (nomark _)) (pss_cons (ps_asg (pv 0) (pg_tup (by rfl) (pgs_cons (pg_name (i := 2) sc_statement_pieces.nd rfl (.inl rfl)) (pgs_cons (pg_name (i := 3) sc_statement_pieces.nd rfl (.inl rfl)) (pgs_cons (pg_name (i := 4) sc_statement_pieces.nd rfl (.inl rfl)) (pgs_cons (pg_name (i := 5) sc_statement_pieces.nd rfl (.inl rfl)) (pgs_cons (pg_name (i := 6) sc_statement_pieces.nd rfl (.inl rfl)) (pgs_cons (pg_name (i := 7) sc_statement_pieces.nd rfl (.inl rfl)) pgs_nil))))))))
      (pss_one (ps_ret (pe_lst (pa_cons (pv 3) (pa_cons pe_str (pa_cons (pv 4) (pa_cons pe_str (pa_cons (pv 5) (pa_cons pe_str (pa_cons (pe_call c_print_value.G (hr.mono (by decide)) (by rfl) c_print_value.m c_print_value.k c_print_value.b .nil pass0 (pa_cons (pv 6) pa_nil)) (pa_cons pe_str (pa_cons pe_str (pa_cons (pv 7) pa_nil)))))))))))))) pss_nil)
      (pss_cons (ps_if (pt_cmpR op_eq (pv 1) pe_str (nomark _)) (pss_one (ps_ret (pe_lst (pa_cons (pe_ix ix_tup (pv 0) pe_int (fun _ _ => rfl)) (pa_cons pe_str (pa_cons (pe_ix ix_tup (pv 0) pe_int (fun _ _ => rfl)) (pa_cons pe_str (pa_cons (pe_call c_print_value.G (hr.mono (by decide)) (by rfl) c_print_value.m c_print_value.k c_print_value.b .nil pass0 (pa_cons (pe_ix ix_tup (pv 0) pe_int (fun _ _ => rfl)) pa_nil)) pa_nil)))))))) pss_nil)
      (pss_cons (ps_if (pt_cmpR op_eq (pv 1) pe_str (nomark _)) (pss_one (ps_ret (pe_lst (pa_cons (pe_ix ix_tup (pv 0) pe_int (fun _ _ => rfl)) (pa_cons pe_str (pa_cons (pe_ix ix_tup (pv 0) pe_int (fun _ _ => rfl)) pa_nil)))))) pss_nil)
      (pss_cons (ps_if (pt_cmpR op_eq (pv 1) pe_str (nomark _)) (pss_one (ps_ret (pe_op op_cat (pe_op op_cat (pe_lst (pa_cons pe_str (pa_cons (pe_ix ix_tup (pv 0) pe_int (fun _ _ => rfl)) (pa_cons pe_str pa_nil)))) (pe_call c_with_commas.G (hr.mono (by decide)) (by rfl) c_with_commas.m c_with_commas.k c_with_commas.b .nil pass0 (pa_cons (pe_ix ix_tup (pv 0) pe_int (fun _ _ => rfl)) pa_nil))) (pe_lst (pa_cons pe_str pa_nil))))) pss_nil)
      (pss_cons (ps_set (i := 8) sc_statement_pieces.nd rfl (.inl rfl) (pe_lst (pa_cons (pv 1) (pa_cons (pe_ix ix_tup (pv 0) pe_int (fun _ _ => rfl)) (pa_cons pe_str (pa_cons (pe_call c_print_value.G (hr.mono (by decide)) (by rfl) c_print_value.m c_print_value.k c_print_value.b .nil pass0 (pa_cons (pe_ix ix_tup (pv 0) pe_int (fun _ _ => rfl)) pa_nil)) (pa_cons (pe_ix ix_tup (pv 0) pe_int (fun _ _ => rfl)) pa_nil)))))))
      (pss_one (ps_ret (pe_ifExp (pt_cmpR op_eq (pv 1) pe_str (nomark _)) (pe_op op_cat (pv 8) (pe_lst (pa_cons pe_str (pa_cons (pe_ix ix_tup (pv 0) pe_int (fun _ _ => rfl)) pa_nil)))) (pv 8)))))))))), ?_⟩
    have vwd : ∀ {v : Val}, VO2 v → v.wd ≤ 1000 := fun {v} h => by
      have h1 := wd_le v
      have h2 := fwd_mono h.2
      have h3 : fwd 2 = 21 := rfl
      omega
    cases x with
    | msg a b l vv x =>
      obtain ⟨n1, n2, n3, n4, n5⟩ : Nm a ∧ Nm b ∧ Nm l ∧ VO2 vv ∧ Nm x := hx
      unfold Stm.dt at hu
      rw [At] at hu
      obtain ⟨p, us, rfl, hp, hul⟩ := hu
      simp only [AtL] at hul
      obtain ⟨u0, r0, rfl, h0, u1, r1, rfl, h1, u2, r2, rfl, h2, u3, r3, rfl, h3, u4, r4, rfl, h4, u5, r5, rfl, h5, rfl⟩ := hul
      unfold At at h0 h1 h2 h3 h5
      subst h0 h1 h2 h3 h5
      refine ⟨_, rfl, p, _, _, _, rfl, rfl, SqT.of hp, atI_nat (j := 0) rfl, ?_⟩
      refine ⟨_, rfl, rfl, _, rfl, ?_⟩
      rw [show decide (V.str "message" = V.str "message") = true by decide +kernel]
      refine iteT ⟨_, rfl, p, _, rfl, SqT.of hp, rfl, _, _, rfl, _, _, rfl, _, _, rfl, _, _, rfl, _, _, rfl, _, _, rfl, rfl, ?_⟩
      refine ⟨_, rfl, _, rfl, _, rfl, _, rfl, u4, vv, rfl, n4.1, vwd n4, h4, fun H2 s2 => ⟨_, rfl, by show 10 ≤ sizeLine; decide, fun q hq => ?_⟩⟩
      exact k q _ _ (s2.trans (same_upd hq)) (s2.free hq) upd_same (pcc rfl (pcc rfl (pcc rfl (pcc rfl (pcc rfl (pcc rfl (pcc rfl (pcc rfl (pcc rfl (pcc rfl pcn))))))))))
    | set e x vv =>
      obtain ⟨n1, n2, n4⟩ : Nm e ∧ Nm x ∧ VO2 vv := hx
      unfold Stm.dt at hu
      rw [At] at hu
      obtain ⟨p, us, rfl, hp, hul⟩ := hu
      simp only [AtL] at hul
      obtain ⟨u0, r0, rfl, h0, u1, r1, rfl, h1, u2, r2, rfl, h2, u3, r3, rfl, h3, rfl⟩ := hul
      unfold At at h0 h1 h2
      subst h0 h1 h2
      refine ⟨_, rfl, p, _, _, _, rfl, rfl, SqT.of hp, atI_nat (j := 0) rfl, ?_⟩
      refine ⟨_, rfl, rfl, _, rfl, ?_⟩
      rw [decide_eq_false (show ¬ V.str "set" = V.str "message" by decide +kernel)]
      refine iteF ⟨_, rfl, rfl, _, rfl, ?_⟩
      rw [show decide (V.str "set" = V.str "set") = true by decide +kernel]
      refine iteT ⟨_, rfl, p, _, _, _, rfl, rfl, SqT.of hp, atI_nat (j := 1) rfl, _, rfl, p, _, _, _, rfl, rfl, SqT.of hp, atI_nat (j := 2) rfl, _, rfl, p, _, _, _, rfl, rfl, SqT.of hp, atI_nat (j := 3) rfl, u3, vv, rfl, n4.1, vwd n4, h3, fun H2 s2 => ⟨by show 5 ≤ sizeLine; decide, fun q hq => ?_⟩⟩
      exact k q _ _ (s2.trans (same_upd hq)) (s2.free hq) upd_same (pcc rfl (pcc rfl (pcc rfl (pcc rfl (pcc rfl pcn)))))
    | ask e x =>
      unfold Stm.dt at hu
      rw [At] at hu
      obtain ⟨p, us, rfl, hp, hul⟩ := hu
      simp only [AtL] at hul
      obtain ⟨u0, r0, rfl, h0, u1, r1, rfl, h1, u2, r2, rfl, h2, rfl⟩ := hul
      unfold At at h0 h1 h2
      subst h0 h1 h2
      refine ⟨_, rfl, p, _, _, _, rfl, rfl, SqT.of hp, atI_nat (j := 0) rfl, ?_⟩
      refine ⟨_, rfl, rfl, _, rfl, ?_⟩
      rw [decide_eq_false (show ¬ V.str "ask" = V.str "message" by decide +kernel)]
      refine iteF ⟨_, rfl, rfl, _, rfl, ?_⟩
      rw [decide_eq_false (show ¬ V.str "ask" = V.str "set" by decide +kernel)]
      refine iteF ⟨_, rfl, rfl, _, rfl, ?_⟩
      rw [show decide (V.str "ask" = V.str "ask") = true by decide +kernel]
      refine iteT ⟨_, rfl, p, _, _, _, rfl, rfl, SqT.of hp, atI_nat (j := 1) rfl, _, rfl, p, _, _, _, rfl, rfl, SqT.of hp, atI_nat (j := 2) rfl, by show 3 ≤ sizeLine; decide, fun q hq => ?_⟩
      exact k q _ _ (same_upd hq) hq upd_same (pcc rfl (pcc rfl (pcc rfl pcn)))
    | call pn cs =>
      have hw : 4 + 2 * cs.length ≤ 20000 := hw
      unfold Stm.dt at hu
      rw [At] at hu
      obtain ⟨p, us, rfl, hp, hul⟩ := hu
      simp only [AtL] at hul
      obtain ⟨u0, r0, rfl, h0, u1, r1, rfl, h1, u2, r2, rfl, h2, rfl⟩ := hul
      unfold At at h0 h1
      subst h0 h1
      obtain ⟨qn, rfl, hqn⟩ := names_inv h2
      refine ⟨_, rfl, p, _, _, _, rfl, rfl, SqT.of hp, atI_nat (j := 0) rfl, ?_⟩
      refine ⟨_, rfl, rfl, _, rfl, ?_⟩
      rw [decide_eq_false (show ¬ V.str "call" = V.str "message" by decide +kernel)]
      refine iteF ⟨_, rfl, rfl, _, rfl, ?_⟩
      rw [decide_eq_false (show ¬ V.str "call" = V.str "set" by decide +kernel)]
      refine iteF ⟨_, rfl, rfl, _, rfl, ?_⟩
      rw [decide_eq_false (show ¬ V.str "call" = V.str "ask" by decide +kernel)]
      refine iteF ⟨_, rfl, rfl, _, rfl, ?_⟩
      rw [show decide (V.str "call" = V.str "call") = true by decide +kernel]
      refine iteT ⟨_, rfl, p, _, _, _, rfl, rfl, SqT.of hp, atI_nat (j := 1) rfl, by show 3 ≤ sizeLine; decide, fun l1 hl1 => ?_⟩
      have s1 := same_upd (o := .lst [.str "call", .str pn, .str "("]) hl1
      refine ⟨_, rfl, p, _, _, _, rfl, rfl, SqT.of (s1 _ _ hp), atI_nat (j := 2) rfl, qn, cs, rfl, s1 _ _ hqn, by omega, fun l2 H2 s2 f2 hl2 => ?_⟩
      have lc : ((commaSL cs).drop 1).length ≤ 2 * cs.length := by
        rw [List.length_drop, commaSL_len]
        omega
      refine ⟨l1, l2, _, _, rfl, rfl, s2 _ _ upd_same, hl2, ?_, fun l3 hl3 => ?_⟩
      · show 3 + _ ≤ _
        exact sz6 (by omega)
      refine ⟨by show 1 ≤ sizeLine; decide, fun l4 hl4 => ?_⟩
      have s3 := same_upd (o := .lst ([.str "call", .str pn, .str "("] ++ (commaSL cs).drop 1)) hl3
      refine ⟨l3, l4, _, _, rfl, rfl, same_upd (o := .lst [.str ")"]) hl4 _ _ upd_same, upd_same, ?_, fun l5 hl5 => ?_⟩
      · rw [List.length_append]
        show 3 + _ + 1 ≤ _
        exact sz6 (by omega)
      have s4 := (s1.trans s2).trans (s3.trans (same_upd (o := .lst [.str ")"]) hl4))
      exact k l5 _ _ (s4.trans (same_upd hl5)) (s4.free hl5) upd_same (PcsAt.app (PcsAt.app (pcc rfl (pcc rfl (pcc rfl pcn))) (commaP_at cs)) (pcc rfl pcn))
    | ite e vv yes no =>
      obtain ⟨n1, n4, n5, n6⟩ : Nm e ∧ VO2 vv ∧ blkOk yes ∧ blkOk no := hx
      unfold Stm.dt at hu
      rw [At] at hu
      obtain ⟨p, us, rfl, hp, hul⟩ := hu
      simp only [AtL] at hul
      obtain ⟨u0, r0, rfl, h0, u1, r1, rfl, h1, u2, r2, rfl, h2, u3, r3, rfl, h3, u4, r4, rfl, h4, rfl⟩ := hul
      unfold At at h0 h1
      subst h0 h1
      refine ⟨_, rfl, p, _, _, _, rfl, rfl, SqT.of hp, atI_nat (j := 0) rfl, ?_⟩
      refine ⟨_, rfl, rfl, _, rfl, ?_⟩
      rw [decide_eq_false (show ¬ V.str "if" = V.str "message" by decide +kernel)]
      refine iteF ⟨_, rfl, rfl, _, rfl, ?_⟩
      rw [decide_eq_false (show ¬ V.str "if" = V.str "set" by decide +kernel)]
      refine iteF ⟨_, rfl, rfl, _, rfl, ?_⟩
      rw [decide_eq_false (show ¬ V.str "if" = V.str "ask" by decide +kernel)]
      refine iteF ⟨_, rfl, rfl, _, rfl, ?_⟩
      rw [decide_eq_false (show ¬ V.str "if" = V.str "call" by decide +kernel)]
      refine iteF ⟨_, rfl, _, rfl, p, _, _, _, rfl, rfl, SqT.of hp, atI_nat (j := 1) rfl, _, rfl, p, _, _, _, rfl, rfl, SqT.of hp, atI_nat (j := 2) rfl, u2, vv, rfl, n4.1, vwd n4, h2, fun H2 s2 => ?_⟩
      refine ⟨_, rfl, p, _, _, _, rfl, rfl, SqT.of (s2 _ _ hp), atI_nat (j := 3) rfl, by show 5 ≤ sizeLine; decide, fun l1 hl1 => ?_⟩
      have s3 := same_upd (o := .lst [.str "if", .str e, .str ":", .str (tell vv), u3]) hl1
      refine ⟨_, rfl, rfl, _, rfl, ?_⟩
      rw [show decide (V.str "if" = V.str "if") = true by decide +kernel]
      refine iteT ⟨_, rfl, _, rfl, p, _, _, _, rfl, rfl, SqT.of (s3 _ _ (s2 _ _ hp)), atI_nat (j := 4) rfl, by show 2 ≤ sizeLine; decide, fun l2 hl2 => ?_⟩
      have s4 := same_upd (o := .lst [.str "else", u4]) hl2
      refine ⟨l1, l2, _, _, rfl, rfl, s4 _ _ upd_same, upd_same, by show 5 + 2 ≤ sizeLine; decide, fun l3 hl3 => ?_⟩
      have s24 := s2.trans (s3.trans s4)
      have s25 := s24.trans (same_upd (o := .lst ([.str "if", .str e, .str ":", .str (tell vv), u3] ++ [.str "else", u4])) hl3)
      exact k l3 _ _ s25 (s24.free hl3) upd_same (PcsAt.app (pcc rfl (pcc rfl (pcc rfl (pcc rfl (pcc (At.keep s25 h3) pcn))))) (pcc rfl (pcc (At.keep s25 h4) pcn)))
    | whl e vv b =>
      obtain ⟨n1, n4, n5⟩ : Nm e ∧ VO2 vv ∧ blkOk b := hx
      unfold Stm.dt at hu
      rw [At] at hu
      obtain ⟨p, us, rfl, hp, hul⟩ := hu
      simp only [AtL] at hul
      obtain ⟨u0, r0, rfl, h0, u1, r1, rfl, h1, u2, r2, rfl, h2, u3, r3, rfl, h3, rfl⟩ := hul
      unfold At at h0 h1
      subst h0 h1
      refine ⟨_, rfl, p, _, _, _, rfl, rfl, SqT.of hp, atI_nat (j := 0) rfl, ?_⟩
      refine ⟨_, rfl, rfl, _, rfl, ?_⟩
      rw [decide_eq_false (show ¬ V.str "while" = V.str "message" by decide +kernel)]
      refine iteF ⟨_, rfl, rfl, _, rfl, ?_⟩
      rw [decide_eq_false (show ¬ V.str "while" = V.str "set" by decide +kernel)]
      refine iteF ⟨_, rfl, rfl, _, rfl, ?_⟩
      rw [decide_eq_false (show ¬ V.str "while" = V.str "ask" by decide +kernel)]
      refine iteF ⟨_, rfl, rfl, _, rfl, ?_⟩
      rw [decide_eq_false (show ¬ V.str "while" = V.str "call" by decide +kernel)]
      refine iteF ⟨_, rfl, _, rfl, p, _, _, _, rfl, rfl, SqT.of hp, atI_nat (j := 1) rfl, _, rfl, p, _, _, _, rfl, rfl, SqT.of hp, atI_nat (j := 2) rfl, u2, vv, rfl, n4.1, vwd n4, h2, fun H2 s2 => ?_⟩
      refine ⟨_, rfl, p, _, _, _, rfl, rfl, SqT.of (s2 _ _ hp), atI_nat (j := 3) rfl, by show 5 ≤ sizeLine; decide, fun l1 hl1 => ?_⟩
      have s3 := same_upd (o := .lst [.str "while", .str e, .str ":", .str (tell vv), u3]) hl1
      refine ⟨_, rfl, rfl, _, rfl, ?_⟩
      rw [decide_eq_false (show ¬ V.str "while" = V.str "if" by decide +kernel)]
      refine iteF ⟨_, rfl, ?_⟩
      have s24 := s2.trans s3
      exact k l1 _ _ s24 (s2.free hl1) upd_same (pcc rfl (pcc rfl (pcc rfl (pcc rfl (pcc (At.keep s24 h3) pcn)))))
end
end OS

namespace OS
open PySem PySem.Spec PyProof.Rows L2
/-! ### the program's printer: pieces of blocks and of trees -/
def prtP (p : Prt) : List Pc := [wK "part", wN p.name, wS "("] ++ commaP p.params ++ [wS ")", .blk p.body]
def prtsP : List Prt → List Pc
  | [] => []
  | p :: r => prtP p ++ prtsP r
theorem prtsP_snoc : ∀ (b : List Prt) (s : Prt), prtsP (b ++ [s]) = prtsP b ++ prtP s
  | [], s => by show prtP s ++ [] = [] ++ prtP s; rw [List.append_nil, List.nil_append]
  | x :: r, s => by
    show prtP x ++ prtsP (r ++ [s]) = prtP x ++ prtsP r ++ prtP s
    rw [prtsP_snoc r s, List.append_assoc]
theorem prtP_len (p : Prt) : (prtP p).length ≤ prtWd p := by
  have := commaP_len p.params
  show ([wK "part", wN p.name, wS "("] ++ commaP p.params ++ [wS ")", .blk p.body]).length ≤ 4 + 2 * p.params.length + (2 + blkWd p.body)
  rw [List.length_append, List.length_append]
  show 3 + _ + 2 ≤ _
  omega
theorem prtsP_len : ∀ (b : List Prt), (prtsP b).length ≤ prtsWd b
  | [] => Nat.le_refl _
  | s :: r => by
    have := prtP_len s
    have := prtsP_len r
    show (prtP s ++ prtsP r).length ≤ prtWd s + prtsWd r
    rw [List.length_append]
    omega
def blkP2 (b : List Stm) : List Pc := wS "{" :: (blkP b ++ [wS "}"])
def treeP (t : Tree) : List Pc := [wK "ends"] ++ commaP t.ends ++ prtsP t.parts ++ [wK "play", .blk t.body]
section
variable {P : Program} {w : World} {K : PySem.W.Frag} {mg : Str → Option Value} {base : Heap}
def spBP (K : PySem.W.Frag) : Sp := fun vs H Q _ => ∃ (v : V) (b : List Stm), vs = [v] ∧ blkOk b ∧ blkWd b ≤ 20000 ∧ At K H (blkDt b) v ∧ ∀ l H' us, Same H H' → H l = none → H' l = some (.lst us) → PcsAt K H' (blkP2 b) us → Q (.ref l) H'
theorem ok_block_pieces {f : Addr} {fd : FuncData} (F : Fun K "block_pieces" "block_pieces" s_block_pieces f fd) (T : Txt K mg) {f_statement_pieces : Addr} {d_statement_pieces : FuncData} (c_statement_pieces : Cal P w K mg base 4 "statement_pieces" ["statement"] (spSP K) f_statement_pieces d_statement_pieces) : FnOk P w K mg base CX0 5 f fd ["block"] (spBP K) := by
  refine F.ok sc_block_pieces (fun vs H Q E h => ?_) (fun cdv A outer s H vs Q E hr h => ?_)
  · obtain ⟨v, b, rfl, _⟩ := h
    rfl
  · obtain ⟨v, b, rfl, hb, hw, hat, k⟩ := h
    refine ⟨_, (pss_cons (ps_set (i := 1) sc_block_pieces.nd rfl (.inl rfl) (pe_lst (pa_cons pe_str pa_nil)))
      (pss_cons (ps_for PassesOwn.never rfl (pi_tup (pv 0)) (pg_name (i := 2) sc_block_pieces.nd rfl (.inl rfl)) (pss_one (ps_expr (pe_bm PySem.F.plainAttrs_list PySem.F.slot_list_extend PySem.F.type_list_extend mt_extend (pv 1) (pa_cons (pe_call c_statement_pieces.G (hr.mono (by decide)) (by rfl) c_statement_pieces.m c_statement_pieces.k c_statement_pieces.b .nil pass0 (pa_cons (pv 2) pa_nil)) pa_nil)))))
      (pss_one (ps_ret (pe_op op_cat (pv 1) (pe_lst (pa_cons pe_str pa_nil))))))), ?_⟩
    unfold blkDt at hat
    rw [At] at hat
    obtain ⟨pb, vs, rfl, hpb, hl⟩ := hat
    refine ⟨by show 1 ≤ sizeLine; decide, fun l hl0 => ?_⟩
    have s1 := same_upd (o := .lst [.str "{"]) hl0
    refine ⟨_, rfl, pb, rfl, ⟨_, SqT.of (s1 _ _ hpb)⟩, for_tup (K := K) (a := pb) (xs := vs) (fun i σ H' => ∃ (y : Option V) (us : List V), σ = [some (.ref pb), some (.ref l), y] ∧ H' l = some (.lst (.str "{" :: us)) ∧ PcsAt K H' (blkP (b.take i)) us ∧ Same H H')
      ⟨none, [], rfl, upd_same, rfl, s1⟩ (fun i σ H' _ ⟨_, _, _, _, _, s⟩ => SqT.of (s _ _ hpb)) ?_ ?_⟩
    · rintro i u σ H1 hi ⟨y, us, rfl, h1, hI, s⟩
      obtain ⟨dd, ed, hu⟩ := AtL.inv (AtL.keep s hl) hi
      obtain ⟨st, es, rfl⟩ := blk_at ed
      obtain ⟨so, sn⟩ := blk_mem es hb
      obtain ⟨wt1, wt2⟩ := blkWd_take es
      have etk : b.take (i + 1) = b.take i ++ [st] := by
        rw [List.take_add_one, es]
        rfl
      refine ⟨_, rfl, .inl ⟨rfl, _, SqL.of h1⟩, _, rfl, _, st, rfl, so, by omega, hu, fun l2 H2 us2 s2 f2 hl2 hI2 => ?_⟩
      have e1 := pcs_len hI
      have e2 := pcs_len hI2
      have e3 := blkP_len (b.take i)
      have e4 := stmP_len st
      refine ⟨l, l2, _, _, rfl, rfl, s2 _ _ h1, hl2, ?_, _, us ++ us2, rfl, ?_, ?_, same_off hl0 (s.trans s2)⟩
      · show us.length + 1 + us2.length ≤ _
        exact sz6 (by omega)
      · rw [upd_same]
        rfl
      · rw [etk, blkP_snoc]
        exact (pcs_offL (s2 _ _ h1) (pcs_keep s2 hI)).app (pcs_offL (s2 _ _ h1) hI2)
    · rintro σ H1 ⟨y, us, rfl, h1, hI, s⟩
      have e3 := hl.length
      rw [blkDts_len] at e3
      rw [e3, List.take_length] at hI
      have e1 := pcs_len hI
      have e4 := blkP_len b
      refine ⟨_, rfl, by show 1 ≤ sizeLine; decide, fun l2 hl2 => ?_⟩
      have s2 := same_upd (o := .lst [.str "}"]) hl2
      refine ⟨l, l2, _, _, rfl, rfl, s2 _ _ h1, upd_same, ?_, fun l3 hl3 => ?_⟩
      · show us.length + 1 + 1 ≤ _
        exact sz6 (by omega)
      have s3 := s2.trans (same_upd (o := .lst (.str "{" :: us ++ [.str "}"])) hl3)
      exact k l3 _ _ (s.trans s3) ((s.trans s2).free hl3) upd_same (pcc rfl ((pcs_keep s3 hI).app (pcc rfl pcn)))
def spTP (K : PySem.W.Frag) : Sp := fun vs H Q _ => ∃ (v : V) (x : Tree), vs = [v] ∧ TOk x ∧ x.wd ≤ 20000 ∧ At K H x.dt v ∧ ∀ l H' us, Same H H' → H l = none → H' l = some (.lst us) → PcsAt K H' (treeP x) us → Q (.ref l) H'
theorem ok_tree_pieces {f : Addr} {fd : FuncData} (F : Fun K "tree_pieces" "tree_pieces" s_tree_pieces f fd) (T : Txt K mg) {f_with_commas : Addr} {d_with_commas : FuncData} (c_with_commas : Cal P w K mg base 1 "with_commas" ["names"] (spWC K) f_with_commas d_with_commas) : FnOk P w K mg base CX0 2 f fd ["tree"] (spTP K) := by
  refine F.ok sc_tree_pieces (fun vs H Q E h => ?_) (fun cdv A outer s H vs Q E hr h => ?_)
  · obtain ⟨v, x, rfl, _⟩ := h
    rfl
  · obtain ⟨v, x, rfl, hx, hw, hat, k⟩ := h
    have hwd : x.wd = 2 + 2 * x.ends.length + prtsWd x.parts + (2 + blkWd x.body) := rfl
    refine ⟨_, (pss_cons (ps_asg (pv 0) (pg_tup (by rfl) (pgs_cons (pg_name (i := 1) sc_tree_pieces.nd rfl (.inl rfl)) (pgs_cons (pg_name (i := 2) sc_tree_pieces.nd rfl (.inl rfl)) (pgs_cons (pg_name (i := 3) sc_tree_pieces.nd rfl (.inl rfl)) pgs_nil)))))
      (pss_cons (ps_set (i := 4) sc_tree_pieces.nd rfl (.inl rfl) (pe_op op_cat (pe_lst (pa_cons pe_str pa_nil)) (pe_call c_with_commas.G (hr.mono (by decide)) (by rfl) c_with_commas.m c_with_commas.k c_with_commas.b .nil pass0 (pa_cons (pv 1) pa_nil))))
      (pss_cons (ps_for PassesOwn.never rfl (pi_tup (pv 2)) (pg_tup (by rfl) (pgs_cons (pg_name (i := 5) sc_tree_pieces.nd rfl (.inl rfl)) (pgs_cons (pg_name (i := 6) sc_tree_pieces.nd rfl (.inl rfl)) (pgs_cons (pg_name (i := 7) sc_tree_pieces.nd rfl (.inl rfl)) pgs_nil)))) (pss_one (ps_expr (pe_bm PySem.F.plainAttrs_list PySem.F.slot_list_extend PySem.F.type_list_extend mt_extend (pv 4) (pa_cons (pe_op op_cat (pe_op op_cat (pe_lst (pa_cons pe_str (pa_cons (pv 5) (pa_cons pe_str pa_nil)))) (pe_call c_with_commas.G (hr.mono (by decide)) (by rfl) c_with_commas.m c_with_commas.k c_with_commas.b .nil pass0 (pa_cons (pv 6) pa_nil))) (pe_lst (pa_cons pe_str (pa_cons (pv 7) pa_nil)))) pa_nil)))))
      (pss_one (ps_ret (pe_op op_cat (pv 4) (pe_lst (pa_cons pe_str (pa_cons (pv 3) pa_nil))))))))), ?_⟩
    unfold Tree.dt at hat
    rw [At] at hat
    obtain ⟨p, vs, rfl, hp, hl⟩ := hat
    simp only [AtL] at hl
    obtain ⟨u0, r0, rfl, h0, u1, r1, rfl, h1, u2, r2, rfl, h2, rfl⟩ := hl
    obtain ⟨qn, rfl, hqn⟩ := names_inv h0
    rw [At] at h1
    obtain ⟨pp, pvs, rfl, hpp, hpl⟩ := h1
    refine ⟨_, rfl, p, _, rfl, SqT.of hp, rfl, _, _, rfl, _, _, rfl, _, _, rfl, rfl, ?_⟩
    refine ⟨by show 1 ≤ sizeLine; decide, fun l1 hl1 => ?_⟩
    have s1 := same_upd (o := .lst [.str "ends"]) hl1
    refine ⟨_, rfl, qn, x.ends, rfl, s1 _ _ hqn, by omega, fun l2 H2 s2 f2 hl2 => ?_⟩
    have lc : ((commaSL x.ends).drop 1).length ≤ 2 * x.ends.length := by
      rw [List.length_drop, commaSL_len]
      omega
    refine ⟨l1, l2, _, _, rfl, rfl, s2 _ _ upd_same, hl2, ?_, fun l hl0' => ?_⟩
    · show 1 + _ ≤ _
      exact sz6 (by omega)
    have s12 := s1.trans s2
    have hl0 : H l = none := s12.free hl0'
    have s3 := s12.trans (same_upd (o := .lst ([.str "ends"] ++ (commaSL x.ends).drop 1)) hl0')
    generalize hH3 : upd H2 l (.lst ([.str "ends"] ++ (commaSL x.ends).drop 1)) = H3 at s3
    have hl3 : H3 l = some (.lst ([.str "ends"] ++ (commaSL x.ends).drop 1)) := by rw [← hH3]; exact upd_same
    refine ⟨_, rfl, pp, rfl, ⟨_, SqT.of (s3 _ _ hpp)⟩, for_tup (K := K) (a := pp) (xs := pvs) (fun i σ H' => ∃ (y5 y6 y7 : Option V) (us : List V), σ = [some (.ref p), some (.ref qn), some (.ref pp), some u2, some (.ref l), y5, y6, y7] ∧ H' l = some (.lst ([.str "ends"] ++ (commaSL x.ends).drop 1 ++ us)) ∧ PcsAt K H' (prtsP (x.parts.take i)) us ∧ Same H H')
      ⟨none, none, none, [], rfl, by rw [List.append_nil]; exact hl3, rfl, s3⟩ (fun i σ H' _ ⟨_, _, _, _, _, _, _, s⟩ => SqT.of (s _ _ hpp)) ?_ ?_⟩
    · rintro i u σ H4 hi ⟨y5, y6, y7, us, rfl, g1, hI, s⟩
      obtain ⟨dd, ed, hu⟩ := AtL.inv (AtL.keep s hpl) hi
      rw [List.getElem?_map] at ed
      obtain ⟨pt, es, rfl⟩ : ∃ q, x.parts[i]? = some q ∧ dd = q.dt := by
        cases e : x.parts[i]? with
        | none => rw [e] at ed; cases ed
        | some q => rw [e] at ed; exact ⟨q, rfl, (Option.some.inj ed).symm⟩
      obtain ⟨wt1, wt2⟩ := prtsWd_take es
      have hpw : prtWd pt = 4 + 2 * pt.params.length + (2 + blkWd pt.body) := rfl
      have etk : x.parts.take (i + 1) = x.parts.take i ++ [pt] := by
        rw [List.take_add_one, es]
        rfl
      obtain ⟨ap, qp, up, rfl, hap, hqp, hbp⟩ := prt_inv hu
      refine ⟨ap, _, rfl, SqT.of hap, rfl, _, _, rfl, _, _, rfl, _, _, rfl, rfl, ?_⟩
      refine ⟨_, rfl, .inl ⟨rfl, _, SqL.of g1⟩, _, rfl, by show 3 ≤ sizeLine; decide, fun m1 hm1 => ?_⟩
      have t1 := same_upd (o := .lst [.str "part", .str pt.name, .str "("]) hm1
      refine ⟨_, rfl, qp, pt.params, rfl, t1 _ _ hqp, by omega, fun m2 H5 t2 f5 hm2 => ?_⟩
      have lc2 : ((commaSL pt.params).drop 1).length ≤ 2 * pt.params.length := by
        rw [List.length_drop, commaSL_len]
        omega
      refine ⟨m1, m2, _, _, rfl, rfl, t2 _ _ upd_same, hm2, ?_, fun m3 hm3 => ?_⟩
      · show 3 + _ ≤ _
        exact sz6 (by omega)
      have t3 := same_upd (o := .lst ([.str "part", .str pt.name, .str "("] ++ (commaSL pt.params).drop 1)) hm3
      refine ⟨_, rfl, by show 2 ≤ sizeLine; decide, fun m4 hm4 => ?_⟩
      have t4 := same_upd (o := .lst [.str ")", up]) hm4
      refine ⟨m3, m4, _, _, rfl, rfl, t4 _ _ upd_same, upd_same, ?_, fun m5 hm5 => ?_⟩
      · rw [List.length_append]
        show 3 + _ + 2 ≤ _
        exact sz6 (by omega)
      have t5 := same_upd (o := .lst ([.str "part", .str pt.name, .str "("] ++ (commaSL pt.params).drop 1 ++ [.str ")", up])) hm5
      have t15 := (t1.trans t2).trans ((t3.trans t4).trans t5)
      have e1 := pcs_len hI
      have e3 := prtsP_len (x.parts.take i)
      have hI5 : PcsAt K _ (prtP pt) ([.str "part", .str pt.name, .str "("] ++ (commaSL pt.params).drop 1 ++ [.str ")", up]) := PcsAt.app (PcsAt.app (pcc rfl (pcc rfl (pcc rfl pcn))) (commaP_at pt.params)) (pcc rfl (pcc (At.keep t15 hbp) pcn))
      have e5 := pcs_len hI5
      have e6 := prtP_len pt
      refine ⟨l, m5, _, _, rfl, rfl, t15 _ _ g1, upd_same, ?_, _, _, _, us ++ ([.str "part", .str pt.name, .str "("] ++ (commaSL pt.params).drop 1 ++ [.str ")", up]), rfl, ?_, ?_, same_off hl0 (s.trans t15)⟩
      · rw [e5, List.length_append, List.length_append]
        show 1 + _ + us.length + _ ≤ _
        exact sz6 (by omega)
      · rw [upd_same, List.append_assoc]
      · rw [etk, prtsP_snoc]
        exact (pcs_offL (t15 _ _ g1) (pcs_keep t15 hI)).app (pcs_offL (t15 _ _ g1) hI5)
    · rintro σ H4 ⟨y5, y6, y7, us, rfl, g1, hI, s⟩
      have e3 := hpl.length
      rw [List.length_map] at e3
      rw [e3, List.take_length] at hI
      have e1 := pcs_len hI
      have e4 := prtsP_len x.parts
      refine ⟨_, rfl, _, rfl, by show 2 ≤ sizeLine; decide, fun l4 hl4 => ?_⟩
      have t1 := same_upd (o := .lst [.str "play", u2]) hl4
      refine ⟨l, l4, _, _, rfl, rfl, t1 _ _ g1, upd_same, ?_, fun l5 hl5 => ?_⟩
      · rw [List.length_append, List.length_append]
        show 1 + _ + us.length + 2 ≤ _
        exact sz6 (by omega)
      have t2 := t1.trans (same_upd (o := .lst ([.str "ends"] ++ (commaSL x.ends).drop 1 ++ us ++ [.str "play", u2])) hl5)
      refine k l5 _ _ (s.trans t2) ((s.trans t1).free hl5) upd_same ?_
      exact PcsAt.app (PcsAt.app (PcsAt.app (pcc rfl pcn) (commaP_at x.ends)) (pcs_keep t2 hI)) (pcc rfl (pcc (At.keep (s.trans t2) h2) pcn))
end
end OS

namespace OS
open PySem PySem.Spec PyProof.Rows L2
/-! ### the program's printer: what its pieces say -/
theorem long_any {la c : Nat} (h1 : la ≠ 45) (h2 : la = 61 → c ≠ 61) : tab.long [la, c] = false := by
  show inV (.str ⟨[la, c].toArray⟩) (longsL.map V.str) = false
  rw [inV_str]
  refine decide_eq_false fun h => ?_
  have q : ∀ x ∈ longsL, x.cps.toList = [45, 62] ∨ x.cps.toList = [61, 61] := by decide +kernel
  rcases q _ h with e | e
  · have e : [la, c] = [45, 62] := e
    injection e with e _
    exact h1 e
  · have e : [la, c] = [61, 61] := e
    injection e with e e2
    injection e2 with e2 _
    exact h2 e e2
theorem long_snd {la c : Nat} (h1 : c ≠ 62) (h2 : c ≠ 61) : tab.long [la, c] = false := by
  show inV (.str ⟨[la, c].toArray⟩) (longsL.map V.str) = false
  rw [inV_str]
  refine decide_eq_false fun h => ?_
  have q : ∀ x ∈ longsL, x.cps.toList = [45, 62] ∨ x.cps.toList = [61, 61] := by decide +kernel
  rcases q _ h with e | e
  · have e : [la, c] = [45, 62] := e
    injection e with _ e
    injection e with e _
    exact h1 e
  · have e : [la, c] = [61, 61] := e
    injection e with _ e2
    injection e2 with e2 _
    exact h2 e2
theorem sgs {s : Str} {p : Str → Prop} (hs : s = "+" ∨ s = "-" ∨ s = "*" ∨ s = "<" ∨ s = "==") (h1 : p "+") (h2 : p "-") (h3 : p "*") (h4 : p "<") (h5 : p "==") : p s := by
  rcases hs with rfl | rfl | rfl | rfl | rfl <;> assumption
def laOf (s : Str) : Nat := if rkS s = 0 then 1 else rkS s
theorem brkL_no {s : Str} {a : Val} (hs : s = "+" ∨ s = "-" ∨ s = "*" ∨ s = "<" ∨ s = "==") (ha : VOk a) (h : brkL s a.hd = false) : laOf s ≤ a.rk := by
  cases a with
  | num n => exact sgs (p := fun s => laOf s ≤ 3) hs (by decide +kernel) (by decide +kernel) (by decide +kernel) (by decide +kernel) (by decide +kernel)
  | name x => exact sgs (p := fun s => laOf s ≤ 3) hs (by decide +kernel) (by decide +kernel) (by decide +kernel) (by decide +kernel) (by decide +kernel)
  | op t u v =>
    have ht := (show t = "+" ∨ t = "-" ∨ t = "*" ∨ t = "<" ∨ t = "==" from ha.1)
    show laOf s ≤ rkS t
    have h : brkL s t = false := h
    revert h
    exact sgs (p := fun s => brkL s t = false → laOf s ≤ rkS t) hs
      (sgs (p := fun t => brkL "+" t = false → laOf "+" ≤ rkS t) ht (by decide +kernel) (by decide +kernel) (by decide +kernel) (by decide +kernel) (by decide +kernel))
      (sgs (p := fun t => brkL "-" t = false → laOf "-" ≤ rkS t) ht (by decide +kernel) (by decide +kernel) (by decide +kernel) (by decide +kernel) (by decide +kernel))
      (sgs (p := fun t => brkL "*" t = false → laOf "*" ≤ rkS t) ht (by decide +kernel) (by decide +kernel) (by decide +kernel) (by decide +kernel) (by decide +kernel))
      (sgs (p := fun t => brkL "<" t = false → laOf "<" ≤ rkS t) ht (by decide +kernel) (by decide +kernel) (by decide +kernel) (by decide +kernel) (by decide +kernel))
      (sgs (p := fun t => brkL "==" t = false → laOf "==" ≤ rkS t) ht (by decide +kernel) (by decide +kernel) (by decide +kernel) (by decide +kernel) (by decide +kernel))
theorem brkR_no {s : Str} {a : Val} (hs : s = "+" ∨ s = "-" ∨ s = "*" ∨ s = "<" ∨ s = "==") (ha : VOk a) (h : brkR s a.hd = false) : rkS s + 1 ≤ a.rk := by
  cases a with
  | num n => exact sgs (p := fun s => rkS s + 1 ≤ 3) hs (by decide +kernel) (by decide +kernel) (by decide +kernel) (by decide +kernel) (by decide +kernel)
  | name x => exact sgs (p := fun s => rkS s + 1 ≤ 3) hs (by decide +kernel) (by decide +kernel) (by decide +kernel) (by decide +kernel) (by decide +kernel)
  | op t u v =>
    have ht := (show t = "+" ∨ t = "-" ∨ t = "*" ∨ t = "<" ∨ t = "==" from ha.1)
    show rkS s + 1 ≤ rkS t
    have h : brkR s t = false := h
    revert h
    exact sgs (p := fun s => brkR s t = false → rkS s + 1 ≤ rkS t) hs
      (sgs (p := fun t => brkR "+" t = false → rkS "+" + 1 ≤ rkS t) ht (by decide +kernel) (by decide +kernel) (by decide +kernel) (by decide +kernel) (by decide +kernel))
      (sgs (p := fun t => brkR "-" t = false → rkS "-" + 1 ≤ rkS t) ht (by decide +kernel) (by decide +kernel) (by decide +kernel) (by decide +kernel) (by decide +kernel))
      (sgs (p := fun t => brkR "*" t = false → rkS "*" + 1 ≤ rkS t) ht (by decide +kernel) (by decide +kernel) (by decide +kernel) (by decide +kernel) (by decide +kernel))
      (sgs (p := fun t => brkR "<" t = false → rkS "<" + 1 ≤ rkS t) ht (by decide +kernel) (by decide +kernel) (by decide +kernel) (by decide +kernel) (by decide +kernel))
      (sgs (p := fun t => brkR "==" t = false → rkS "==" + 1 ≤ rkS t) ht (by decide +kernel) (by decide +kernel) (by decide +kernel) (by decide +kernel) (by decide +kernel))
/-- the first sign of a told value is no "=", the last one no "=" and no "-" -/
structure TlE (l : List Nat) : Prop where
  fst : ∃ c r, l = c :: r ∧ c ≠ 61
  lst : ∃ c, l.getLast? = some c ∧ c ≠ 45 ∧ c ≠ 61
theorem tlE_app {a b c : List Nat} (ha : TlE a) (hc : TlE c) : TlE (a ++ (b ++ c)) := by
  obtain ⟨x, r, rfl, hx⟩ := ha.fst
  obtain ⟨y, hy, h1, h2⟩ := hc.lst
  refine ⟨⟨x, r ++ (b ++ c), rfl, hx⟩, y, ?_, h1, h2⟩
  rw [List.getLast?_append, List.getLast?_append, hy]
  rfl
theorem tlE_br {a : List Nat} : TlE ((Str.ofString "(").cps.toList ++ (a ++ (Str.ofString ")").cps.toList)) := by
  have e1 : (Str.ofString "(").cps.toList = [40] := by decide +kernel
  have e2 : (Str.ofString ")").cps.toList = [41] := by decide +kernel
  rw [e1, e2]
  exact tlE_app (a := [40]) (b := a) (c := [41]) ⟨⟨40, [], rfl, by decide⟩, 40, rfl, by decide, by decide⟩ ⟨⟨41, [], rfl, by decide⟩, 41, rfl, by decide, by decide⟩
theorem tlE_wrap {x : Val} (h : TlE (tell x).cps.toList) (c : Bool) : TlE (if c = true then "(" ++ tell x ++ ")" else tell x).cps.toList := by
  cases c
  · exact h
  · show TlE ((Str.ofString "(") ++ tell x ++ (Str.ofString ")")).cps.toList
    rw [app_cps, app_cps, List.append_assoc]
    exact tlE_br
theorem tell_E : ∀ {x : Val}, VOk x → TlE (tell x).cps.toList
  | .num n, h => by
    have h : n = 0 ∨ n = 1 ∨ n = 2 ∨ n = 3 ∨ n = 7 ∨ n = 4294967295 := h
    show TlE (Str.ofString (toString n)).cps.toList
    rcases h with rfl | rfl | rfl | rfl | rfl | rfl
    · rw [show (Str.ofString (toString (0 : Int))).cps.toList = [48] by decide +kernel]; exact ⟨⟨_, _, rfl, by decide⟩, _, rfl, by decide, by decide⟩
    · rw [show (Str.ofString (toString (1 : Int))).cps.toList = [49] by decide +kernel]; exact ⟨⟨_, _, rfl, by decide⟩, _, rfl, by decide, by decide⟩
    · rw [show (Str.ofString (toString (2 : Int))).cps.toList = [50] by decide +kernel]; exact ⟨⟨_, _, rfl, by decide⟩, _, rfl, by decide, by decide⟩
    · rw [show (Str.ofString (toString (3 : Int))).cps.toList = [51] by decide +kernel]; exact ⟨⟨_, _, rfl, by decide⟩, _, rfl, by decide, by decide⟩
    · rw [show (Str.ofString (toString (7 : Int))).cps.toList = [55] by decide +kernel]; exact ⟨⟨_, _, rfl, by decide⟩, _, rfl, by decide, by decide⟩
    · rw [show (Str.ofString (toString (4294967295 : Int))).cps.toList = [52, 50, 57, 52, 57, 54, 55, 50, 57, 53] by decide +kernel]; exact ⟨⟨_, _, rfl, by decide⟩, _, rfl, by decide, by decide⟩
  | .name x, h => by
    have h : x = "n" ∨ x = "m" ∨ x = "k" := h
    show TlE x.cps.toList
    rcases h with rfl | rfl | rfl <;> exact ⟨⟨_, _, rfl, by decide⟩, _, rfl, by decide, by decide⟩
  | .op s a b, h => by
    obtain ⟨_, ha, hb⟩ : (s = "+" ∨ s = "-" ∨ s = "*" ∨ s = "<" ∨ s = "==") ∧ VOk a ∧ VOk b := h
    have e : tell (.op s a b) = (if brkL s a.hd = true then "(" ++ tell a ++ ")" else tell a) ++ " " ++ s ++ " " ++ (if brkR s b.hd = true then "(" ++ tell b ++ ")" else tell b) := rfl
    rw [e]
    have h1 := tlE_wrap (tell_E ha) (brkL s a.hd)
    have h2 := tlE_wrap (tell_E hb) (brkR s b.hd)
    generalize (if brkL s a.hd = true then "(" ++ tell a ++ ")" else tell a) = u at h1
    generalize (if brkR s b.hd = true then "(" ++ tell b ++ ")" else tell b) = v at h2
    have := tlE_app (b := (Str.ofString " ").cps.toList ++ (s.cps.toList ++ (Str.ofString " ").cps.toList)) h1 h2
    rw [app_cps, app_cps, app_cps, app_cps]
    simpa [List.append_assoc] using this
def GlueV (l d : Nat) (x : Val) (t : Str) : Prop := ∀ (z g : Str) (W : List Tok2), Glued z W → Gp g.cps.toList → (g.cps.toList = [] → ∀ la, z.cps.toList.getLast? = some la → NoMelt la t.cps.toList) → ∃ ws, PV l d x ws ∧ Glued (z ++ g ++ t) (W ++ ws)
theorem gp_none : Gp (Str.ofString "").cps.toList := .inl (by decide +kernel)
theorem gp_one : Gp (Str.ofString " ").cps.toList := .inr (.inl (by decide +kernel))
theorem no_br {l : List Nat} : NoMelt 40 l := fun c r _ => ⟨fun q => absurd q.1 (by decide), long_any (by decide) (fun q => absurd q (by decide))⟩
theorem br_no {la : Nat} : NoMelt la (Str.ofString ")").cps.toList := fun c r e => by
  have e1 : (Str.ofString ")").cps.toList = [41] := by decide +kernel
  rw [e1] at e
  injection e with e _
  subst e
  exact ⟨fun q => absurd q.2 (by decide), long_snd (by decide) (by decide)⟩
theorem last_one (z : Str) (c : Nat) (u : Str) (hu : u.cps.toList = [c]) : (z ++ u).cps.toList.getLast? = some c := by
  rw [app_cps, hu, List.getLast?_append]
  rfl
theorem glue_wrap {x : Val} {d l : Nat} (h : ∀ l, l ≤ x.rk → GlueV l d x (tell x)) (c : Bool) (hl : c = false → l ≤ x.rk) : GlueV l (d + 1) x (if c = true then "(" ++ tell x ++ ")" else tell x) := by
  intro z g W hz hg hm
  cases c with
  | false =>
    obtain ⟨ws, h1, h2⟩ := h l (hl rfl) z g W hz hg hm
    exact ⟨ws, h1.mono (Nat.le_succ _), h2⟩
  | true =>
    have g1 := glued_put (w := "(") hz hg word_br.1 (fun q la e => by
      have hm := hm q la e
      intro c r ec
      have e1 : (Str.ofString "(").cps.toList = [40] := by decide +kernel
      refine hm c (r ++ (tell x).cps.toList ++ (Str.ofString ")").cps.toList) ?_
      show ((Str.ofString "(") ++ tell x ++ (Str.ofString ")")).cps.toList = _
      have ec : (Str.ofString "(").cps.toList = c :: r := ec
      rw [app_cps, app_cps, ec]
      simp)
    obtain ⟨ws, h1, h2⟩ := h 0 (Nat.zero_le _) _ "" _ g1 gp_none (fun _ la e => by
      have e2 := last_one (z ++ g) 40 "(" (by decide +kernel)
      rw [e2] at e
      injection e with e
      subst e
      exact no_br)
    have g3 := glued_put (w := ")") h2 gp_none word_br.2 (fun _ la _ => br_no)
    refine ⟨sg "(" :: (ws ++ [sg ")"]), .brk h1, ?_⟩
    have e1 : z ++ g ++ (if true = true then "(" ++ tell x ++ ")" else tell x) = z ++ g ++ "(" ++ "" ++ tell x ++ "" ++ ")" := by
      refine str_ext ?_
      show (z ++ g ++ ((Str.ofString "(") ++ tell x ++ (Str.ofString ")"))).cps.toList = (z ++ g ++ (Str.ofString "(") ++ (Str.ofString "") ++ tell x ++ (Str.ofString "") ++ (Str.ofString ")")).cps.toList
      have e0 : (Str.ofString "").cps.toList = [] := by decide +kernel
      simp only [app_cps, e0, List.append_nil, List.append_assoc]
    rw [e1]
    have e2 : W ++ sg "(" :: (ws ++ [sg ")"]) = W ++ [sg "("] ++ ws ++ [sg ")"] := by simp
    rw [e2]
    exact g3
theorem glue_tell : ∀ (x : Val), VOk x → ∀ l, l ≤ x.rk → GlueV l (x.dep + 1) x (tell x)
  | .num n, h, l, hl => fun z g W hz hg hm => by
    obtain ⟨_, hw, _, hn⟩ := num_str h
    exact ⟨[("number", Str.ofString (toString n))], .num hn, glued_put hz hg hw hm⟩
  | .name x, h, l, hl => fun z g W hz hg hm => by
    have h : x = "n" ∨ x = "m" ∨ x = "k" := h
    have hw : Word x .name := by
      refine (nm_word ?_).1
      unfold Nm
      rcases h with rfl | rfl | rfl <;> simp
    exact ⟨[nmT x], .name, glued_put hz hg hw hm⟩
  | .op s a b, h, l, hl => fun z g W hz hg hm => by
    obtain ⟨hs, ha, hb⟩ : (s = "+" ∨ s = "-" ∨ s = "*" ∨ s = "<" ∨ s = "==") ∧ VOk a ∧ VOk b := h
    have e : tell (.op s a b) = (if brkL s a.hd = true then "(" ++ tell a ++ ")" else tell a) ++ " " ++ s ++ " " ++ (if brkR s b.hd = true then "(" ++ tell b ++ ")" else tell b) := rfl
    have wa := glue_wrap (glue_tell a ha) (brkL s a.hd) (l := laOf s) (brkL_no hs ha)
    have wb := glue_wrap (glue_tell b hb) (brkR s b.hd) (l := rkS s + 1) (brkR_no hs hb)
    rw [e] at hm ⊢
    generalize (if brkL s a.hd = true then "(" ++ tell a ++ ")" else tell a) = u at wa hm ⊢
    generalize (if brkR s b.hd = true then "(" ++ tell b ++ ")" else tell b) = v at wb hm ⊢
    obtain ⟨w1, p1, g1⟩ := wa z g W hz hg (fun q la el => by
      have hm := hm q la el
      intro c r ec
      refine hm c (r ++ ((Str.ofString " ").cps.toList ++ (s.cps.toList ++ ((Str.ofString " ").cps.toList ++ v.cps.toList)))) ?_
      show (u ++ (Str.ofString " ") ++ s ++ (Str.ofString " ") ++ v).cps.toList = _
      simp only [app_cps, ec, List.append_assoc, List.cons_append])
    have g2 := glued_put (w := s) (g := " ") g1 gp_one (word_sign hs) (fun q => absurd q (by decide +kernel))
    obtain ⟨w3, p3, g3⟩ := wb _ " " _ g2 gp_one (fun q => absurd q (by decide +kernel))
    have hd : (Val.op s a b).dep = max a.dep b.dep + 1 := rfl
    refine ⟨w1 ++ ([sg s] ++ w3), op_pv (la := laOf s) hs hl (p1.mono (by rw [hd]; omega)) (p3.mono (by rw [hd]; omega)) ?_, ?_⟩
    · unfold laOf
      by_cases q : rkS s = 0
      · rw [if_pos q]; exact .inl ⟨q, rfl⟩
      · rw [if_neg q]; exact .inr ⟨q, rfl⟩
    · have e1 : z ++ g ++ (u ++ " " ++ s ++ " " ++ v) = z ++ g ++ u ++ " " ++ s ++ " " ++ v := by
        refine str_ext ?_
        simp only [app_cps, List.append_assoc]
      have e2 : W ++ (w1 ++ ([sg s] ++ w3)) = W ++ w1 ++ [sg s] ++ w3 := by simp
      rw [e1, e2]
      exact g3
/-! ### the words of pieces -/
def IW : List Pc → List Tok2 → Prop
  | [], ws => ws = []
  | .wrd s k :: r, ws => ∃ w2, ws = (kindS k, s) :: w2 ∧ IW r w2
  | .val x :: r, ws => ∃ w1 w2, PV 0 12 x w1 ∧ IW r w2 ∧ ws = w1 ++ w2
  | .blk b :: r, ws => ∃ wb w2, PB b wb ∧ IW r w2 ∧ ws = (sg "{" :: (wb ++ [sg "}"])) ++ w2
theorem iw_split : ∀ {a b : List Pc} {ws : List Tok2}, IW (a ++ b) ws → ∃ w1 w2, IW a w1 ∧ IW b w2 ∧ ws = w1 ++ w2
  | [], b, ws, h => ⟨[], ws, rfl, h, rfl⟩
  | .wrd s k :: r, b, ws, h => by
    obtain ⟨w2, rfl, h2⟩ : ∃ w2, ws = (kindS k, s) :: w2 ∧ IW (r ++ b) w2 := h
    obtain ⟨u1, u2, h3, h4, rfl⟩ := iw_split h2
    exact ⟨(kindS k, s) :: u1, u2, ⟨u1, rfl, h3⟩, h4, rfl⟩
  | .val x :: r, b, ws, h => by
    obtain ⟨w1, w2, hv, h2, rfl⟩ : ∃ w1 w2, PV 0 12 x w1 ∧ IW (r ++ b) w2 ∧ ws = w1 ++ w2 := h
    obtain ⟨u1, u2, h3, h4, rfl⟩ := iw_split h2
    exact ⟨w1 ++ u1, u2, ⟨w1, u1, hv, h3, rfl⟩, h4, by rw [List.append_assoc]⟩
  | .blk x :: r, b, ws, h => by
    obtain ⟨wb, w2, hv, h2, rfl⟩ : ∃ wb w2, PB x wb ∧ IW (r ++ b) w2 ∧ ws = (sg "{" :: (wb ++ [sg "}"])) ++ w2 := h
    obtain ⟨u1, u2, h3, h4, rfl⟩ := iw_split h2
    exact ⟨(sg "{" :: (wb ++ [sg "}"])) ++ u1, u2, ⟨wb, u1, hv, h3, rfl⟩, h4, by rw [List.append_assoc]⟩
theorem commaL_iw : ∀ {es : List Str} {ws : List Tok2}, IW (commaPL es) ws → ws = commasL es
  | [], ws, h => h
  | y :: r, ws, h => by
    obtain ⟨w2, rfl, w3, rfl, h2⟩ : ∃ w2, ws = sg "," :: w2 ∧ ∃ w3, w2 = nmT y :: w3 ∧ IW (commaPL r) w3 := h
    rw [commaL_iw h2]
    rfl
theorem comma_iw : ∀ {es : List Str} {ws : List Tok2}, IW (commaP es) ws → ws = commas es
  | [], ws, h => h
  | y :: r, ws, h => by
    obtain ⟨w3, rfl, h2⟩ : ∃ w3, ws = nmT y :: w3 ∧ IW (commaPL r) w3 := h
    rw [commaL_iw h2]
    rfl
theorem stm_iw : ∀ {s : Stm} {ws : List Tok2}, SOk s → IW (stmP s) ws → PS s ws
  | .msg a b l v x, ws, ho, h => by
    have n1 := nm_f (show Nm a from ho.1)
    obtain ⟨_, rfl, _, rfl, _, rfl, _, rfl, _, rfl, _, rfl, wv, _, hv, ⟨_, rfl, _, rfl, _, rfl, rfl⟩, rfl⟩ := h
    exact ⟨n1, wv, hv, rfl⟩
  | .set e x v, ws, ho, h => by
    have n1 := nm_f (show Nm e from ho.1)
    obtain ⟨_, rfl, _, rfl, _, rfl, _, rfl, wv, _, hv, rfl, rfl⟩ := h
    exact ⟨n1, wv, hv, by rw [List.append_nil]; rfl⟩
  | .ask e x, ws, ho, h => by
    have n1 := nm_f (show Nm e from ho.1)
    obtain ⟨_, rfl, _, rfl, _, rfl, rfl⟩ := h
    exact ⟨n1, rfl⟩
  | .call p cs, ws, ho, h => by
    obtain ⟨_, hc, _⟩ : Nm p ∧ cs ≠ [] ∧ ∀ e ∈ cs, Nm e := ho
    have h : IW (([wK "call", wN p, wS "("] ++ commaP cs) ++ [wS ")"]) ws := h
    obtain ⟨w1, w2, h1, ⟨_, rfl, rfl⟩, rfl⟩ := iw_split h
    obtain ⟨w3, w4, ⟨_, rfl, _, rfl, _, rfl, rfl⟩, h4, rfl⟩ := iw_split h1
    rw [comma_iw h4]
    exact ⟨hc, by show _ = kw "call" :: nmT p :: sg "(" :: (commas cs ++ [sg ")"]); simp [kindS, kw, nmT, sg]⟩
  | .ite e v yes no, ws, ho, h => by
    obtain ⟨_, rfl, _, rfl, _, rfl, wv, _, hv, ⟨wy, _, hy, ⟨_, rfl, wn, _, hn, rfl, rfl⟩, rfl⟩, rfl⟩ := h
    rw [PS]
    exact ⟨wv, wy, wn, hv, hy, hn, by simp [kindS, kw, nmT, sg]⟩
  | .whl e v b, ws, ho, h => by
    obtain ⟨_, rfl, _, rfl, _, rfl, wv, _, hv, ⟨wy, _, hy, rfl, rfl⟩, rfl⟩ := h
    rw [PS]
    exact ⟨wv, wy, hv, hy, by simp [kindS, kw, nmT, sg]⟩
theorem blk_iw : ∀ {b : List Stm} {ws : List Tok2}, blkOk b → IW (blkP b) ws → PB b ws
  | [], ws, _, h => h
  | s :: r, ws, ho, h => by
    have ho : SOk s ∧ blkOk r := ho
    obtain ⟨w1, w2, h1, h2, rfl⟩ := iw_split (show IW (stmP s ++ blkP r) ws from h)
    rw [PB]
    exact ⟨w1, w2, stm_iw ho.1 h1, blk_iw ho.2 h2, rfl⟩
theorem blk2_iw {b : List Stm} {r : List Pc} {ws : List Tok2} (ho : blkOk b) (h : IW (blkP2 b ++ r) ws) : IW (.blk b :: r) ws := by
  obtain ⟨w1, w2, h1, h2, rfl⟩ := iw_split h
  obtain ⟨w3, rfl, h3⟩ : ∃ w3, w1 = sg "{" :: w3 ∧ IW (blkP b ++ [wS "}"]) w3 := h1
  obtain ⟨w4, w5, h4, ⟨_, rfl, rfl⟩, rfl⟩ := iw_split h3
  exact ⟨w4, w2, blk_iw ho h4, h2, rfl⟩
theorem prt_iw {p : Prt} {ws : List Tok2} (ho : POk p) (h : IW (prtP p) ws) : PP p ws := by
  obtain ⟨_, h0, _, _, ho5, _⟩ := ho
  have h : IW (([wK "part", wN p.name, wS "("] ++ commaP p.params) ++ [wS ")", .blk p.body]) ws := h
  obtain ⟨w1, w2, h1, ⟨_, rfl, wb, _, hb, rfl, rfl⟩, rfl⟩ := iw_split h
  obtain ⟨w3, w4, ⟨_, rfl, _, rfl, _, rfl, rfl⟩, h4, rfl⟩ := iw_split h1
  rw [comma_iw h4]
  exact ⟨h0, wb, hb, by simp [kindS, kw, nmT, sg]⟩
theorem prts_iw : ∀ {ps : List Prt} {ws : List Tok2}, (∀ p ∈ ps, POk p) → IW (prtsP ps) ws → PPs ps ws
  | [], ws, _, h => h
  | p :: r, ws, ho, h => by
    obtain ⟨w1, w2, h1, h2, rfl⟩ := iw_split (show IW (prtP p ++ prtsP r) ws from h)
    exact ⟨w1, w2, prt_iw (ho p (List.mem_cons_self ..)) h1, prts_iw (fun q hq => ho q (List.mem_cons_of_mem _ hq)) h2, rfl⟩
theorem tree_iw {t : Tree} {ws : List Tok2} (ho : TOk t) (h : IW (treeP t) ws) : PT t ws := by
  have h : IW ((([wK "ends"] ++ commaP t.ends) ++ prtsP t.parts) ++ [wK "play", .blk t.body]) ws := h
  obtain ⟨w1, w2, h1, ⟨_, rfl, wb, _, hb, rfl, rfl⟩, rfl⟩ := iw_split h
  obtain ⟨w3, wp, h3, hp, rfl⟩ := iw_split h1
  obtain ⟨w5, w6, ⟨_, rfl, rfl⟩, h6, rfl⟩ := iw_split h3
  rw [comma_iw h6]
  exact ⟨ho.e0, wp, wb, prts_iw ho.po hp, hb, by simp [kindS, kw, nmT, sg]⟩
end OS

namespace OS
open PySem PySem.Spec PyProof.Rows L2
/-! ### the program's printer: print_tree -/
def endOk (s : Str) : Bool := match s.cps.toList.getLast? with
  | some c => c != 45 && (c != 61 || decide (s = "="))
  | none => false
theorem endOk_of {s : Str} (h : endOk s = true) : ∃ c, s.cps.toList.getLast? = some c ∧ c ≠ 45 ∧ (c = 61 → s = "=") := by
  unfold endOk at h
  split at h
  · rename_i c e
    simp only [Bool.and_eq_true, Bool.or_eq_true, bne_iff_ne, decide_eq_true_eq] at h
    exact ⟨c, e, h.1, fun q => h.2.resolve_left fun w => w q⟩
  · cases h
def pOk : Pc → Prop
  | .wrd s k => Word s k ∧ s.length ≤ 15 ∧ endOk s = true
  | .val x => VOk x ∧ x.wd ≤ 1000 ∧ x.dep ≤ 11
  | .blk b => blkOk b ∧ blkWd b ≤ 20000
def pOkL : List Pc → Prop
  | [] => True
  | i :: r => pOk i ∧ pOkL r
theorem pOkL_app : ∀ {a b : List Pc}, pOkL a → pOkL b → pOkL (a ++ b)
  | [], _, _, h => h
  | _ :: _, _, h, h2 => ⟨h.1, pOkL_app h.2 h2⟩
def eqOk : List Pc → Prop
  | [] => True
  | .wrd s _ :: r => (s = "=" → ∃ x q, r = .val x :: q) ∧ eqOk r
  | _ :: r => eqOk r
theorem eqOk_app : ∀ {a b : List Pc}, eqOk a → eqOk b → eqOk (a ++ b)
  | [], _, _, h => h
  | .wrd s k :: r, b, h, h2 => by
    have h : (s = "=" → ∃ x q, r = .val x :: q) ∧ eqOk r := h
    exact ⟨fun q => by
      obtain ⟨x, q, e⟩ := h.1 q
      exact ⟨x, q ++ b, by rw [e]; rfl⟩, eqOk_app h.2 h2⟩
  | .val x :: r, b, h, h2 => eqOk_app (a := r) h h2
  | .blk x :: r, b, h, h2 => eqOk_app (a := r) h h2
theorem eqc {s : Str} {k : Srt} {r : List Pc} (h : ¬ s = "=") (hr : eqOk r) : eqOk (.wrd s k :: r) := ⟨fun q => absurd q h, hr⟩
theorem nm_end {x : Str} (h : Nm x) : endOk x = true ∧ ¬ x = "=" := by
  unfold Nm at h
  rcases h with rfl | rfl | rfl | rfl | rfl | rfl | rfl | rfl | rfl | rfl | rfl | rfl | rfl | rfl | rfl <;> exact ⟨by decide +kernel, by decide +kernel⟩
theorem ok_n {x : Str} (h : Nm x) : pOk (wN x) := ⟨(nm_word h).1, (nm_word h).2, (nm_end h).1⟩
theorem ok_s (w : Str) (h : litOk w .sign = true := by decide +kernel) (h2 : endOk w = true := by decide +kernel) : pOk (wS w) := ⟨(lit_ok h).1, (lit_ok h).2, h2⟩
theorem ok_k (w : Str) (h : litOk w .word = true := by decide +kernel) (h2 : endOk w = true := by decide +kernel) : pOk (wK w) := ⟨(lit_ok h).1, (lit_ok h).2, h2⟩
theorem ok_v {v : Val} (h : VO2 v) : pOk (.val v) := by
  have h1 := wd_le v
  have h2 := fwd_mono h.2
  have h3 : fwd 2 = 21 := rfl
  have h4 := h.2
  exact ⟨h.1, by omega, by omega⟩
theorem commaL_ok : ∀ {es : List Str}, (∀ e ∈ es, Nm e) → pOkL (commaPL es) ∧ eqOk (commaPL es)
  | [], _ => ⟨trivial, trivial⟩
  | y :: r, h => by
    have ih := commaL_ok (es := r) fun x hx => h x (List.mem_cons_of_mem _ hx)
    have hy := h y (List.mem_cons_self ..)
    exact ⟨⟨ok_s ",", ok_n hy, ih.1⟩, eqc (by decide +kernel) (eqc (nm_end hy).2 ih.2)⟩
theorem comma_ok : ∀ {es : List Str}, (∀ e ∈ es, Nm e) → pOkL (commaP es) ∧ eqOk (commaP es)
  | [], _ => ⟨trivial, trivial⟩
  | y :: r, h => by
    have ih := commaL_ok (es := r) fun x hx => h x (List.mem_cons_of_mem _ hx)
    have hy := h y (List.mem_cons_self ..)
    exact ⟨⟨ok_n hy, ih.1⟩, eqc (nm_end hy).2 ih.2⟩
theorem stmP_ok : ∀ {s : Stm}, SOk s → s.wd ≤ 20000 → pOkL (stmP s) ∧ eqOk (stmP s)
  | .msg a b l v x, ho, _ => by
    obtain ⟨n1, n2, n3, n4, n5⟩ : Nm a ∧ Nm b ∧ Nm l ∧ VO2 v ∧ Nm x := ho
    exact ⟨⟨ok_n n1, ok_s "->", ok_n n2, ok_s ":", ok_n n3, ok_s "(", ok_v n4, ok_s ")", ok_k "as", ok_n n5, trivial⟩,
      eqc (nm_end n1).2 (eqc (by decide +kernel) (eqc (nm_end n2).2 (eqc (by decide +kernel) (eqc (nm_end n3).2 (eqc (by decide +kernel) (show eqOk [wS ")", wK "as", wN x] from eqc (by decide +kernel) (eqc (by decide +kernel) (eqc (nm_end n5).2 trivial))))))))⟩
  | .set e x v, ho, _ => by
    obtain ⟨n1, n2, n4⟩ : Nm e ∧ Nm x ∧ VO2 v := ho
    exact ⟨⟨ok_n n1, ok_k "sets", ok_n n2, ok_s "=", ok_v n4, trivial⟩,
      eqc (nm_end n1).2 (eqc (by decide +kernel) (eqc (nm_end n2).2 ⟨fun _ => ⟨v, [], rfl⟩, trivial⟩))⟩
  | .ask e x, ho, _ => by
    obtain ⟨n1, n2⟩ : Nm e ∧ Nm x := ho
    exact ⟨⟨ok_n n1, ok_k "asks", ok_n n2, trivial⟩, eqc (nm_end n1).2 (eqc (by decide +kernel) (eqc (nm_end n2).2 trivial))⟩
  | .call p cs, ho, _ => by
    obtain ⟨n1, _, n2⟩ : Nm p ∧ cs ≠ [] ∧ ∀ e ∈ cs, Nm e := ho
    have hc := comma_ok n2
    exact ⟨pOkL_app (pOkL_app ⟨ok_k "call", ok_n n1, ok_s "(", trivial⟩ hc.1) ⟨ok_s ")", trivial⟩,
      eqOk_app (eqOk_app (eqc (by decide +kernel) (eqc (nm_end n1).2 (eqc (by decide +kernel) trivial))) hc.2) (eqc (by decide +kernel) trivial)⟩
  | .ite e v yes no, ho, hw => by
    obtain ⟨n1, n4, n5, n6⟩ : Nm e ∧ VO2 v ∧ blkOk yes ∧ blkOk no := ho
    have hw : 4 + v.wd + (2 + blkWd yes) + (2 + blkWd no) ≤ 20000 := hw
    exact ⟨⟨ok_k "if", ok_n n1, ok_s ":", ok_v n4, ⟨n5, by omega⟩, ok_k "else", ⟨n6, by omega⟩, trivial⟩,
      eqc (by decide +kernel) (eqc (nm_end n1).2 (eqc (by decide +kernel) (show eqOk [wK "else", .blk no] from eqc (by decide +kernel) trivial)))⟩
  | .whl e v b, ho, hw => by
    obtain ⟨n1, n4, n5⟩ : Nm e ∧ VO2 v ∧ blkOk b := ho
    have hw : 3 + v.wd + (2 + blkWd b) ≤ 20000 := hw
    exact ⟨⟨ok_k "while", ok_n n1, ok_s ":", ok_v n4, ⟨n5, by omega⟩, trivial⟩,
      eqc (by decide +kernel) (eqc (nm_end n1).2 (eqc (by decide +kernel) trivial))⟩
theorem blkP_ok : ∀ {b : List Stm}, blkOk b → blkWd b ≤ 20000 → pOkL (blkP b) ∧ eqOk (blkP b)
  | [], _, _ => ⟨trivial, trivial⟩
  | s :: r, ho, hw => by
    have ho : SOk s ∧ blkOk r := ho
    have hw : s.wd + blkWd r ≤ 20000 := hw
    have h1 := stmP_ok ho.1 (by omega)
    have h2 := blkP_ok ho.2 (by omega)
    exact ⟨pOkL_app h1.1 h2.1, eqOk_app h1.2 h2.2⟩
theorem blkP2_ok {b : List Stm} (ho : blkOk b) (hw : blkWd b ≤ 20000) : pOkL (blkP2 b) ∧ eqOk (blkP2 b) := by
  have h := blkP_ok ho hw
  exact ⟨⟨ok_s "{", pOkL_app h.1 ⟨ok_s "}", trivial⟩⟩, eqc (by decide +kernel) (eqOk_app h.2 (eqc (by decide +kernel) trivial))⟩
theorem prtP_ok {p : Prt} (ho : POk p) (hw : prtWd p ≤ 20000) : pOkL (prtP p) ∧ eqOk (prtP p) := by
  obtain ⟨n1, h0, n2, _, n5, _⟩ := ho
  have hw : 4 + 2 * p.params.length + (2 + blkWd p.body) ≤ 20000 := hw
  have hc := comma_ok n2
  exact ⟨pOkL_app (pOkL_app ⟨ok_k "part", ok_n n1, ok_s "(", trivial⟩ hc.1) ⟨ok_s ")", ⟨n5, by omega⟩, trivial⟩,
    eqOk_app (eqOk_app (eqc (by decide +kernel) (eqc (nm_end n1).2 (eqc (by decide +kernel) trivial))) hc.2) (eqc (by decide +kernel) trivial)⟩
theorem prtsP_ok : ∀ {ps : List Prt}, (∀ p ∈ ps, POk p) → prtsWd ps ≤ 20000 → pOkL (prtsP ps) ∧ eqOk (prtsP ps)
  | [], _, _ => ⟨trivial, trivial⟩
  | p :: r, ho, hw => by
    have hw : prtWd p + prtsWd r ≤ 20000 := hw
    have h1 := prtP_ok (ho p (List.mem_cons_self ..)) (by omega)
    have h2 := prtsP_ok (ps := r) (fun q hq => ho q (List.mem_cons_of_mem _ hq)) (by omega)
    exact ⟨pOkL_app h1.1 h2.1, eqOk_app h1.2 h2.2⟩
theorem treeP_ok {t : Tree} (ho : TOk t) (hw : t.wd ≤ 20000) : pOkL (treeP t) ∧ eqOk (treeP t) := by
  have hw : 2 + 2 * t.ends.length + prtsWd t.parts + (2 + blkWd t.body) ≤ 20000 := hw
  have hc := comma_ok ho.en
  have hp := prtsP_ok ho.po (by omega)
  exact ⟨pOkL_app (pOkL_app (pOkL_app ⟨ok_k "ends", trivial⟩ hc.1) hp.1) ⟨ok_k "play", ⟨ho.bo, by omega⟩, trivial⟩,
    eqOk_app (eqOk_app (eqOk_app (eqc (by decide +kernel) trivial) hc.2) hp.2) (eqc (by decide +kernel) trivial)⟩
/-! sizes -/
def Pc.sz : Pc → Nat
  | .wrd _ _ => 1
  | .val x => x.wd - 2
  | .blk b => 3 + blkWd b
def pszL : List Pc → Nat
  | [] => 0
  | i :: r => i.sz + pszL r
theorem pszL_app : ∀ (a b : List Pc), pszL (a ++ b) = pszL a + pszL b
  | [], b => by show pszL b = 0 + pszL b; omega
  | x :: r, b => by
    show x.sz + pszL (r ++ b) = x.sz + pszL r + pszL b
    rw [pszL_app r b]
    omega
theorem pc_pos : ∀ i : Pc, 1 ≤ i.sz
  | .wrd _ _ => Nat.le_refl _
  | .val x => by
    have := wd_pos x
    show 1 ≤ x.wd - 2
    omega
  | .blk b => by show 1 ≤ 3 + blkWd b; omega
theorem pcs_sz : ∀ (a : List Pc), a.length ≤ pszL a
  | [] => Nat.le_refl _
  | i :: r => by
    have := pc_pos i
    have := pcs_sz r
    show r.length + 1 ≤ i.sz + pszL r
    omega
theorem commaPL_sz : ∀ (a : List Str), pszL (commaPL a) = 2 * a.length
  | [] => rfl
  | x :: r => by
    show 1 + (1 + pszL (commaPL r)) = 2 * (r.length + 1)
    rw [commaPL_sz r]
    omega
theorem commaP_sz : ∀ (a : List Str), pszL (commaP a) ≤ 2 * a.length - 1
  | [] => Nat.le_refl _
  | x :: r => by
    show 1 + pszL (commaPL r) ≤ 2 * (r.length + 1) - 1
    rw [commaPL_sz r]
    omega
theorem stmP_sz : ∀ (s : Stm), pszL (stmP s) ≤ s.wd
  | .msg a b l v x => by
    have := wd_pos v
    show 1 + (1 + (1 + (1 + (1 + (1 + (v.wd - 2 + (1 + (1 + (1 + 0))))))))) ≤ 9 + v.wd
    omega
  | .set e x v => by
    have := wd_pos v
    show 1 + (1 + (1 + (1 + (v.wd - 2 + 0)))) ≤ 4 + v.wd
    omega
  | .ask e x => Nat.le_refl _
  | .call p cs => by
    have := commaP_sz cs
    show pszL ([wK "call", wN p, wS "("] ++ commaP cs ++ [wS ")"]) ≤ 4 + 2 * cs.length
    rw [pszL_app, pszL_app]
    show 1 + (1 + (1 + 0)) + _ + (1 + 0) ≤ _
    omega
  | .ite e v yes no => by
    have := wd_pos v
    show 1 + (1 + (1 + (v.wd - 2 + (3 + blkWd yes + (1 + (3 + blkWd no + 0)))))) ≤ 4 + v.wd + (2 + blkWd yes) + (2 + blkWd no)
    omega
  | .whl e v b => by
    have := wd_pos v
    show 1 + (1 + (1 + (v.wd - 2 + (3 + blkWd b + 0)))) ≤ 3 + v.wd + (2 + blkWd b)
    omega
theorem blkP_sz : ∀ (b : List Stm), pszL (blkP b) ≤ blkWd b
  | [] => Nat.le_refl _
  | s :: r => by
    have := stmP_sz s
    have := blkP_sz r
    show pszL (stmP s ++ blkP r) ≤ s.wd + blkWd r
    rw [pszL_app]
    omega
theorem blkP2_sz (b : List Stm) : pszL (blkP2 b) ≤ 2 + blkWd b := by
  have := blkP_sz b
  show 1 + pszL (blkP b ++ [wS "}"]) ≤ _
  rw [pszL_app]
  show 1 + (_ + (1 + 0)) ≤ _
  omega
theorem prtP_sz {p : Prt} (h : p.params ≠ []) : pszL (prtP p) ≤ prtWd p := by
  have := commaP_sz p.params
  have := List.length_pos_iff.mpr h
  show pszL ([wK "part", wN p.name, wS "("] ++ commaP p.params ++ [wS ")", .blk p.body]) ≤ 4 + 2 * p.params.length + (2 + blkWd p.body)
  rw [pszL_app, pszL_app]
  show 1 + (1 + (1 + 0)) + _ + (1 + (3 + blkWd p.body + 0)) ≤ _
  omega
theorem prtsP_sz : ∀ {ps : List Prt}, (∀ p ∈ ps, POk p) → pszL (prtsP ps) ≤ prtsWd ps
  | [], _ => Nat.le_refl _
  | p :: r, ho => by
    have h1 := prtP_sz (ho p (List.mem_cons_self ..)).2.1
    have h2 := prtsP_sz (ps := r) (fun q hq => ho q (List.mem_cons_of_mem _ hq))
    show pszL (prtP p ++ prtsP r) ≤ prtWd p + prtsWd r
    rw [pszL_app]
    omega
theorem treeP_sz {t : Tree} (ho : TOk t) : pszL (treeP t) ≤ t.wd := by
  have := commaP_sz t.ends
  have := List.length_pos_iff.mpr ho.e0
  have := prtsP_sz ho.po
  show pszL ([wK "ends"] ++ commaP t.ends ++ prtsP t.parts ++ [wK "play", .blk t.body]) ≤ 2 + 2 * t.ends.length + prtsWd t.parts + (2 + blkWd t.body)
  rw [pszL_app, pszL_app, pszL_app]
  show 1 + 0 + _ + _ + (1 + (3 + blkWd t.body + 0)) ≤ _
  omega
/-! pieces that are texts -/
structure TxtP (i : Pc) (s : Str) : Prop where
  len : s.length + 1 ≤ 40 * i.sz
  short : s.length ≤ 40000
  fst : ∃ c, s.cps.toList[0]? = some c
  lst : ∃ c, s.cps.toList.getLast? = some c ∧ c ≠ 45 ∧ (c = 61 → s = "=" ∧ ∃ k, i = .wrd s k)
  val : (∃ x, i = .val x) → ∀ c r, s.cps.toList = c :: r → c ≠ 61
  glue : ∀ (z g : Str) (W : List Tok2), Glued z W → Gp g.cps.toList → (g.cps.toList = [] → ∀ la, z.cps.toList.getLast? = some la → NoMelt la s.cps.toList) → ∃ ws, Glued (z ++ g ++ s) (W ++ ws) ∧ ∀ r wr, IW r wr → IW (i :: r) (ws ++ wr)
theorem txtP_wrd {s : Str} {k : Srt} (h : pOk (.wrd s k)) : TxtP (.wrd s k) s := by
  obtain ⟨h1, h2, h3⟩ : Word s k ∧ s.length ≤ 15 ∧ endOk s = true := h
  obtain ⟨c, e, c1, c2⟩ := endOk_of h3
  obtain ⟨c0, e0, _⟩ := h1.first
  refine ⟨by show s.length + 1 ≤ 40 * 1; omega, by omega, ⟨c0, e0⟩, ⟨c, e, c1, fun q => ⟨c2 q, k, rfl⟩⟩, (fun ⟨x, q⟩ => by cases q), fun z g W hz hg hm => ⟨[(kindS k, s)], glued_put hz hg h1 hm, fun r wr hr => ⟨wr, rfl, hr⟩⟩⟩
theorem txtP_val {x : Val} (h : pOk (.val x)) : TxtP (.val x) (tell x) := by
  obtain ⟨h1, h2, h3⟩ : VOk x ∧ x.wd ≤ 1000 ∧ x.dep ≤ 11 := h
  have hl := tell_len h1
  have hw := wd_pos x
  have te := tell_E h1
  obtain ⟨c, r, ec, cn⟩ := te.fst
  obtain ⟨cl, el, l1, l2⟩ := te.lst
  refine ⟨by show (tell x).length + 1 ≤ 40 * (x.wd - 2); omega, by omega, ⟨c, by rw [ec]; rfl⟩, ⟨cl, el, l1, fun q => absurd q l2⟩, fun _ c' r' e' => ?_, fun z g W hz hg hm => ?_⟩
  · rw [ec] at e'
    injection e' with e' _
    rw [← e']
    exact cn
  · obtain ⟨ws, p, gl⟩ := glue_tell x h1 0 (Nat.zero_le _) z g W hz hg hm
    exact ⟨ws, gl, fun r wr hr => ⟨ws, wr, p.mono (by omega), hr, rfl⟩⟩
theorem pc_txt {K : PySem.W.Frag} {H : Hp} : ∀ {i : Pc} {v : V}, pOk i → PcAt K H i v → (∃ b, i = .blk b ∧ blkOk b ∧ blkWd b ≤ 20000 ∧ At K H (blkDt b) v) ∨ ∃ s, v = .str s ∧ (match i with | .wrd s _ => some s | .val x => some (tell x) | .blk _ => none) = some s ∧ TxtP i s
  | .wrd s k, v, h, e => .inr ⟨s, e, rfl, txtP_wrd h⟩
  | .val x, v, h, e => .inr ⟨tell x, e, rfl, txtP_val h⟩
  | .blk b, v, h, e => .inl ⟨b, rfl, h.1, h.2, e⟩
def ipw (z : Str) : Bool := PySem.Txt.isalnum z || decide (V.str z = V.str "_")
theorem ipw_name {c : Nat} (h : isName c = true) : ipw ⟨#[c]⟩ = true := by
  have hc : c < 128 := by
    unfold isName isLetter isDigit at h
    simp only [Bool.or_eq_true, Bool.and_eq_true, decide_eq_true_eq, beq_iff_eq] at h
    omega
  have q : ∀ c, c < 128 → isName c = true → ipw ⟨#[c]⟩ = true := by decide +kernel
  exact q c hc h
/-! what is printed is told by the pieces alone -/
def txtOf : Pc → Option Str
  | .wrd s _ => some s
  | .val x => some (tell x)
  | .blk _ => none
def gapS (last s : Str) : Str := match last.cps.toList.getLast?, s.cps.toList[0]? with
  | some a, some b => if ipw ⟨#[a]⟩ = true then (if ipw ⟨#[b]⟩ = true then " " else "") else ""
  | _, _ => ""
theorem gapS_of {last s : Str} {a b : Nat} (h1 : last.cps.toList.getLast? = some a) (h2 : s.cps.toList[0]? = some b) : gapS last s = (if ipw ⟨#[a]⟩ = true then (if ipw ⟨#[b]⟩ = true then (" " : Str) else ("" : Str)) else ("" : Str)) := by
  unfold gapS
  rw [h1, h2]
inductive Pr : List Pc → Str → Str → Str → Prop
  | done {last z : Str} : Pr [] last z z
  | blk {b : List Stm} {r : List Pc} {last z e : Str} : Pr (blkP2 b ++ r) last z e → Pr (.blk b :: r) last z e
  | txt {i : Pc} {r : List Pc} {last z e s : Str} : txtOf i = some s → Pr r s (z ++ gapS last s ++ s) e → Pr (i :: r) last z e
theorem Pr.det {is : List Pc} {last z e : Str} (h : Pr is last z e) : ∀ {e' : Str}, Pr is last z e' → e = e' := by
  induction h with
  | done =>
    intro e' g
    cases g
    rfl
  | blk _ ih =>
    intro e' g
    cases g with
    | blk g => exact ih g
    | txt q _ => cases q
  | txt q _ ih =>
    intro e' g
    cases g with
    | blk _ => cases q
    | txt q' g =>
      rw [q] at q'
      have q' := Option.some.inj q'
      subst q'
      exact ih g
structure PrS (K : PySem.W.Frag) (H0 H' : Hp) (tl wl : Addr) (x : Tree) (ts : List Str) (is : List Pc) (us : List V) (last z : Str) (W : List Tok2) : Prop where
  T : H' tl = some (.lst (ts.map V.str))
  Wl : H' wl = some (.lst us.reverse)
  cells : PcsAt K H' is us
  ok : pOkL is
  eq : eqOk is
  cat : catL ts = z.cps.toList
  gl : Glued z W
  fin : ∀ wr, IW is wr → PT x (W ++ wr)
  la : ∃ lc, last.cps.toList.getLast? = some lc ∧ last.length ≤ 40000 ∧ (z.cps.toList = [] ∨ (z.cps.toList.getLast? = some lc ∧ lc ≠ 45 ∧ (lc = 61 → ∃ v r, is = .val v :: r)))
  n1 : ts.length + 2 * pszL is ≤ 60000
  n2 : z.length + 40 * pszL is ≤ 1000000
  same : Same H0 H'
  pr : ∀ e, Pr is last z e → Pr (treeP x) " " "" e
section
variable {P : Program} {w : World} {K : PySem.W.Frag} {mg : Str → Option Value} {base : Heap}
def spIP : Sp := fun vs H Q _ => ∃ z : Str, vs = [.str z] ∧ Q (.bl (ipw z)) H
theorem ok_is_part_of_word {f : Addr} {fd : FuncData} (F : Fun K "is_part_of_word" "is_part_of_word" s_is_part_of_word f fd) (T : Txt K mg) : FnOk P w K mg base CX0 1 f fd ["sign"] spIP := by
  refine F.ok sc_is_part_of_word (fun vs H Q E h => ?_) (fun cdv A outer s H vs Q E hr h => ?_)
  · obtain ⟨z, rfl, _⟩ := h
    rfl
  · obtain ⟨z, rfl, k⟩ := h
    refine ⟨_, (pss_one (ps_ret (pe_or (pe_bm0 PySem.F.plainAttrs_str PySem.F.slot_str_isalnum PySem.F.type_str_isalnum mt_isalnum (pv 0)) (pe_one (pe_cmpR op_eq (pv 0) pe_str (nomark _)))))), ?_⟩
    refine ⟨_, rfl, rfl, _, rfl, rfl, trivial, _, rfl, ?_⟩
    refine ite2 (fun c => ?_) (fun c => ?_)
    · have e : ipw z = true := by unfold ipw; rw [c]; rfl
      rw [e] at k
      exact k
    · have c : PySem.Txt.isalnum z = false := Bool.not_eq_true _ ▸ c
      have e : ipw z = decide (V.str z = V.str "_") := by unfold ipw; rw [c]; rfl
      rw [e] at k
      exact ⟨_, rfl, rfl, k⟩
def spPrT (K : PySem.W.Frag) : Sp := fun vs H Q _ => ∃ (v : V) (x : Tree), vs = [v] ∧ TOk x ∧ x.wd ≤ 20000 ∧ At K H x.dt v ∧ ∀ z W H', Same H H' → Glued z W → PT x W → z.length ≤ 1000000 → Pr (treeP x) " " "" z → Q (.str z) H'
theorem ok_print_tree {f : Addr} {fd : FuncData} (F : Fun K "print_tree" "print_tree" s_print_tree f fd) (T : Txt K mg) {f_tree_pieces : Addr} {d_tree_pieces : FuncData} (c_tree_pieces : Cal P w K mg base 2 "tree_pieces" ["tree"] (spTP K) f_tree_pieces d_tree_pieces) {f_block_pieces : Addr} {d_block_pieces : FuncData} (c_block_pieces : Cal P w K mg base 5 "block_pieces" ["block"] (spBP K) f_block_pieces d_block_pieces) {f_is_part_of_word : Addr} {d_is_part_of_word : FuncData} (c_is_part_of_word : Cal P w K mg base 1 "is_part_of_word" ["sign"] spIP f_is_part_of_word d_is_part_of_word) : FnOk P w K mg base CX0 6 f fd ["tree"] (spPrT K) := by
  refine F.ok sc_print_tree (fun vs H Q E h => ?_) (fun cdv A outer s H vs Q E hr h => ?_)
  · obtain ⟨v, x, rfl, _⟩ := h
    rfl
  · obtain ⟨v, x, rfl, hx, hw, hat, k⟩ := h
    refine ⟨_, (pss_cons (ps_set (i := 1) sc_print_tree.nd rfl (.inl rfl) (pe_lst pa_nil))
      (pss_cons (ps_set (i := 2) sc_print_tree.nd rfl (.inl rfl) pe_str)
      (pss_cons (ps_set (i := 3) sc_print_tree.nd rfl (.inl rfl) (pe_revL (pe_call c_tree_pieces.G (hr.mono (by decide)) (by rfl) c_tree_pieces.m c_tree_pieces.k c_tree_pieces.b .nil pass0 (pa_cons (pv 0) pa_nil))))
      (pss_cons (ps_while PassesOwn.never (pt_truth (pv 3) (by intro _; rfl)) (pss_cons (ps_set (i := 4) sc_print_tree.nd rfl (.inl rfl) (pe_bm0 PySem.F.plainAttrs_list PySem.F.slot_list_pop PySem.F.type_list_pop mt_pop (pv 3)))
      (pss_cons (ps_if (pt_not (pt_val (pe_callB call_isi (by rfl) T.isinstance (by decide +kernel) (pa_cons (pv 4) (pa_cons (pe_bltn (v := .ty "str") (u := Value.type "str") (by rfl) T.str (by decide +kernel) rfl) pa_nil))))) (pss_cons (ps_expr (pe_bm PySem.F.plainAttrs_list PySem.F.slot_list_extend PySem.F.type_list_extend mt_extend (pv 3) (pa_cons (pe_revL (pe_call c_block_pieces.G (hr.mono (by decide)) (by rfl) c_block_pieces.m c_block_pieces.k c_block_pieces.b .nil pass0 (pa_cons (pv 4) pa_nil))) pa_nil)))
      (pss_one ps_continue)) pss_nil)
      (Evl.pss_cut (ps_if (PW.pt (pw_and (pt_val (pe_call c_is_part_of_word.G (hr.mono (by decide)) (by rfl) c_is_part_of_word.m c_is_part_of_word.k c_is_part_of_word.b .nil pass0 (pa_cons (pe_ix ix_str (pv 2) (pe_un un_neg pe_int) (fun _ _ => rfl)) pa_nil))) (pw_and1 (pt_val (pe_call c_is_part_of_word.G (hr.mono (by decide)) (by rfl) c_is_part_of_word.m c_is_part_of_word.k c_is_part_of_word.b .nil pass0 (pa_cons (pe_ix ix_str (pv 4) pe_int (fun _ _ => rfl)) pa_nil)))))) (pss_one (ps_expr (pe_bm PySem.F.plainAttrs_list PySem.F.slot_list_append PySem.F.type_list_append mt_append (pv 1) (pa_cons pe_str pa_nil)))) pss_nil)
      (pss_cons (ps_expr (pe_bm PySem.F.plainAttrs_list PySem.F.slot_list_append PySem.F.type_list_append mt_append (pv 1) (pa_cons (pv 4) pa_nil)))
      (pss_one (ps_set (i := 2) sc_print_tree.nd rfl (.inl rfl) (pv 4))))))))
      (pss_one (ps_ret (pe_join pe_str (pv 1)))))))), ?_⟩
    refine ⟨Nat.zero_le _, fun tl htl => ?_⟩
    have s1 := same_upd (o := .lst []) htl
    refine ⟨_, rfl, v, x, rfl, hx, hw, At.keep s1 hat, fun l H2 us0 s2 f2 hl2 hI2 => ?_⟩
    refine ⟨l, us0, rfl, SqL.of hl2, fun wl hwl => ?_⟩
    have hT2 := s2 _ _ (upd_same (H := H) (a := tl) (o := .lst []))
    have hne : tl ≠ wl := ne_of_none hT2 hwl
    have s3 := s1.trans s2
    have hwl0 : H wl = none := s3.free hwl
    have s4 := s3.trans (same_upd (o := .lst us0.reverse) hwl)
    have psz := treeP_sz hx
    have pok := treeP_ok hx hw
    refine ⟨fun m σ H' => ∃ (ts : List Str) (is : List Pc) (us : List V) (last z : Str) (W : List Tok2) (y : Option V), σ = [some v, some (.ref tl), some (.str last), some (.ref wl), y] ∧ PrS K H H' tl wl x ts is us last z W ∧ m = pszL is,
      ⟨_, [], treeP x, us0, " ", "", [], none, rfl, ⟨?_, upd_same, pcs_keep (same_upd hwl) hI2, pok.1, pok.2, ?_, glued_nil, fun wr h => tree_iw hx h, ⟨32, by decide +kernel, by decide +kernel, .inl (by decide +kernel)⟩, ?_, ?_, s4, fun _ h => h⟩, rfl⟩, ?_⟩
    · rw [upd_ne hne]
      exact hT2
    · show [] = (Str.ofString "").cps.toList
      decide +kernel
    · show 0 + 2 * _ ≤ _
      omega
    · have e0 : (Str.ofString "").length = 0 := by decide +kernel
      rw [e0]
      omega
    rintro m σ H1 ⟨ts, is, us, last, z, W, y, rfl, S, rfl⟩
    cases is with
    | nil =>
      have hI : us = [] := S.cells
      subst hI
      refine ⟨_, rfl, false, .inl ⟨_, SqL.of S.Wl, rfl⟩, ?_⟩
      have n2 : z.length + 40 * 0 ≤ 1000000 := S.n2
      refine iteF ⟨⟨_, rfl⟩, _, rfl, "", tl, ts, rfl, rfl, .inl (SqL.of S.T), ?_, ?_⟩
      · rw [catL_len, S.cat, ← len_cps]
        have e0 : (Str.ofString "").length = 0 := by decide +kernel
        show _ + ts.length * (Str.ofString "").length ≤ _
        rw [e0]
        omega
      · rw [join_is S.cat]
        have f := S.fin [] rfl
        rw [List.append_nil] at f
        exact k z W H1 S.same S.gl f (by omega) (S.pr _ .done)
    | cons i r =>
      obtain ⟨u, q, rfl, hi, hr2⟩ : ∃ u q, us = u :: q ∧ PcAt K H1 i u ∧ PcsAt K H1 r q := S.cells
      have ip := pc_pos i
      have n1 : ts.length + 2 * (i.sz + pszL r) ≤ 60000 := S.n1
      have n2 : z.length + 40 * (i.sz + pszL r) ≤ 1000000 := S.n2
      have hW := S.Wl
      rw [List.reverse_cons] at hW
      have hT := S.T
      refine ⟨_, rfl, true, .inl ⟨_, SqL.of hW, by simp⟩, ?_⟩
      refine iteT ⟨fun σ' H' => ∃ m', m' < pszL (i :: r) ∧ ∃ (ts : List Str) (is : List Pc) (us : List V) (last z : Str) (W : List Tok2) (y : Option V), σ' = [some v, some (.ref tl), some (.str last), some (.ref wl), y] ∧ PrS K H H' tl wl x ts is us last z W ∧ m' = pszL is, fun σ' H' h => h, ?_⟩
      refine ⟨_, rfl, .inl ⟨rfl, _, SqL.of hW⟩, wl, _, u, rfl, rfl, hW, last_app _ _, ?_⟩
      rw [List.dropLast_concat]
      have hT2 : (upd H1 wl (.lst q.reverse)) tl = some (.lst (ts.map V.str)) := by rw [upd_ne hne]; exact hT
      have hi2 := pc_offL (ys := q.reverse) hW hi
      have hr2 := pcs_offL (ys := q.reverse) hW hr2
      have s5 : Same H (upd H1 wl (.lst q.reverse)) := same_off hwl0 S.same
      have hW2 : (upd H1 wl (.lst q.reverse)) wl = some (.lst q.reverse) := upd_same
      generalize upd H1 wl (.lst q.reverse) = H2 at hT2 hi2 hr2 s5 hW2
      rcases pc_txt S.ok.1 hi2 with ⟨b, rfl, bo, bw, hb⟩ | ⟨sx, rfl, tof, tx⟩
      · obtain ⟨a0, vs0, rfl, ha0, _⟩ : ∃ p vs, u = .ref p ∧ H2 p = some (.tup vs) ∧ AtL K H2 (blkDts b) vs := by
          have hb := hb
          unfold blkDt at hb
          rw [At] at hb
          exact hb
        refine ⟨_, rfl, _, _, .type "tuple", .type "str", false, rfl, .ty _, .base (.tup ha0), kit_ty (by decide +kernel), false, rfl, ?_⟩
        refine iteT ?_
        refine ⟨_, rfl, .inl ⟨rfl, _, SqL.of hW2⟩, _, rfl, _, b, rfl, bo, bw, hb, fun l H3 us3 s6 hl0 hl3 hI3 => ?_⟩
        refine ⟨l, us3, rfl, SqL.of hl3, fun p hp => ?_⟩
        have s7 := s6.trans (same_upd (o := .lst us3.reverse) hp)
        have hW3 := s7 _ _ hW2
        have hT3 := s7 _ _ hT2
        have hI4 := pcs_keep (same_upd (o := .lst us3.reverse) hp) hI3
        have hr4 := pcs_keep s7 hr2
        have i1 := pcs_len hI4
        have i2 := pcs_len hr4
        have i3 := blkP2_sz b
        have i4 := pcs_sz (blkP2 b)
        have i5 := pcs_sz r
        have n1 : ts.length + 2 * (3 + blkWd b + pszL r) ≤ 60000 := n1
        have n2 : z.length + 40 * (3 + blkWd b + pszL r) ≤ 1000000 := n2
        refine ⟨wl, p, _, _, rfl, rfl, hW3, upd_same, ?_, ?_⟩
        · rw [List.length_reverse, List.length_reverse]
          exact sz6 (by omega)
        have bk := blkP2_ok bo bw
        obtain ⟨lc, la1, la2, la3⟩ := S.la
        refine ⟨pszL (blkP2 b ++ r), ?_, ts, blkP2 b ++ r, us3 ++ q, last, z, W, _, rfl, ⟨?_, ?_, ?_, pOkL_app bk.1 S.ok.2, eqOk_app bk.2 S.eq, S.cat, S.gl, fun wr h => S.fin wr (blk2_iw bo h), ⟨lc, la1, la2, ?_⟩, ?_, ?_, same_off hwl0 (s5.trans s7), fun e h => S.pr e (.blk h)⟩, rfl⟩
        · rw [pszL_app]
          show _ < 3 + blkWd b + pszL r
          omega
        · rw [upd_ne hne]
          exact hT3
        · rw [upd_same, List.reverse_append]
        · exact (pcs_offL hW3 hI4).app (pcs_offL hW3 hr4)
        · rcases la3 with la3 | ⟨l1, l2, l3⟩
          · exact .inl la3
          · refine .inr ⟨l1, l2, fun q => ?_⟩
            obtain ⟨v', r', e'⟩ := l3 q
            cases e'
        · rw [pszL_app]
          omega
        · rw [pszL_app]
          omega
      · refine ⟨_, rfl, _, _, .type "str", .type "str", true, rfl, .ty _, .base (.str sx), kit_ty (by decide +kernel), true, rfl, ?_⟩
        refine iteF ?_
        obtain ⟨lc, la1, la2, la3⟩ := S.la
        obtain ⟨c0, hc0⟩ := tx.fst
        have al : atI last.cps.toList (-1) = some lc := by
          obtain ⟨ys, e2⟩ := List.getLast?_eq_some_iff.mp la1
          rw [e2]
          exact atI_last _ _
        have noM : (isName lc = true → ¬ isName c0 = true) → ∀ la, z.cps.toList.getLast? = some la → NoMelt la sx.cps.toList := fun hn la e c r' ec => by
          have ec0 : c = c0 := by
            rw [ec] at hc0
            exact Option.some.inj hc0
          subst ec0
          rcases la3 with la3 | ⟨l1, l2, l3⟩
          · rw [la3] at e
            cases e
          · rw [l1] at e
            have e := Option.some.inj e
            subst e
            refine ⟨fun q => hn q.1 q.2, long_any l2 fun q => ?_⟩
            obtain ⟨v', r', e'⟩ := l3 q
            injection e' with e1 _
            exact tx.val ⟨v', e1⟩ c _ ec
        refine ⟨fun σ H' => ∃ (g : Str) (ts' : List Str), σ = [some v, some (.ref tl), some (.str last), some (.ref wl), some (.str sx)] ∧ H' tl = some (.lst (ts'.map V.str)) ∧ catL ts' = (z ++ g).cps.toList ∧ H' wl = some (.lst q.reverse) ∧ PcsAt K H' r q ∧ Same H H' ∧ Gp g.cps.toList ∧ (g.cps.toList = [] → ∀ la, z.cps.toList.getLast? = some la → NoMelt la sx.cps.toList) ∧ ts'.length ≤ ts.length + 1 ∧ g.length ≤ 1 ∧ g = gapS last sx, ?_, ?_⟩
        · have e0 : (Str.ofString "").cps.toList = [] := by decide +kernel
          have none2 : (isName lc = true → ¬ isName c0 = true) → "" = gapS last sx → ∃ (g : Str) (ts' : List Str), [some v, some (.ref tl), some (.str last), some (.ref wl), some (.str sx)] = [some v, some (V.ref tl), some (.str last), some (.ref wl), some (.str sx)] ∧ H2 tl = some (.lst (ts'.map V.str)) ∧ catL ts' = (z ++ g).cps.toList ∧ H2 wl = some (.lst q.reverse) ∧ PcsAt K H2 r q ∧ Same H H2 ∧ Gp g.cps.toList ∧ (g.cps.toList = [] → ∀ la, z.cps.toList.getLast? = some la → NoMelt la sx.cps.toList) ∧ ts'.length ≤ ts.length + 1 ∧ g.length ≤ 1 ∧ g = gapS last sx := fun hn hgp =>
            ⟨"", ts, rfl, hT2, by rw [app_cps, e0, List.append_nil]; exact S.cat, hW2, hr2, s5, gp_none, fun _ => noM hn, by omega, by decide +kernel, hgp⟩
          refine ⟨_, rfl, _, rfl, last, _, lc, rfl, rfl, sz6 (by omega), al, ⟨#[lc]⟩, rfl, _, rfl, ?_⟩
          refine ite2 (fun c1 => ?_) (fun c1 => ?_)
          · refine ⟨_, rfl, sx, _, c0, rfl, rfl, sz6 (by have := tx.short; omega), atI_nat (j := 0) hc0, ⟨#[c0]⟩, rfl, _, rfl, ?_⟩
            refine ite2 (fun c2 => ?_) (fun c2 => ?_)
            · refine ⟨_, rfl, .inl ⟨rfl, _, SqL.of hT2⟩, tl, _, _, rfl, rfl, hT2, ?_, ?_⟩
              · rw [List.length_map]
                exact sz6' (by omega)
              refine ⟨" ", ts ++ [(" " : Str)], rfl, ?_, ?_, ?_, pcs_offL hT2 hr2, same_off htl s5, gp_one, fun q => absurd q (by decide +kernel), ?_, by decide +kernel, by rw [gapS_of la1 hc0, if_pos c1, if_pos c2]⟩
              · rw [upd_same, List.map_append]
                rfl
              · rw [catL_snoc, app_cps, S.cat]
              · rw [upd_ne hne.symm]
                exact hW2
              · rw [List.length_append]
                exact Nat.le_refl _
            · exact none2 (fun _ q => c2 (ipw_name q)) (by rw [gapS_of la1 hc0, if_pos c1, if_neg c2])
          · exact none2 (fun q => absurd (ipw_name q) c1) (by rw [gapS_of la1 hc0, if_neg c1])
        · rintro σ H3 ⟨g, ts', rfl, hT3, cat3, hW3, hr3, s6, gp, nm, lt, lg, rfl⟩
          refine ⟨_, rfl, .inl ⟨rfl, _, SqL.of hT3⟩, _, rfl, tl, _, _, rfl, rfl, hT3, ?_, ?_⟩
          · rw [List.length_map]
            exact sz6' (by omega)
          obtain ⟨ws, g1, g2⟩ := tx.glue z _ W S.gl gp nm
          obtain ⟨ls, ls1, ls2, ls3⟩ := tx.lst
          have tl1 := tx.len
          refine ⟨_, rfl, pszL r, ?_, ts' ++ [sx], r, q, sx, z ++ gapS last sx ++ sx, W ++ ws, _, rfl, ⟨?_, ?_, pcs_offL hT3 hr3, S.ok.2, ?_, ?_, g1, ?_, ⟨ls, ls1, tx.short, .inr ⟨?_, ls2, fun q => ?_⟩⟩, ?_, ?_, same_off htl s6, fun e h => S.pr e (.txt (by cases i <;> exact tof) h)⟩, rfl⟩
          · show pszL r < i.sz + pszL r
            omega
          · rw [upd_same, List.map_append]
            rfl
          · rw [upd_ne hne.symm]
            exact hW3
          · have := S.eq
            cases i with
            | wrd _ _ => exact this.2
            | val _ => exact this
            | blk _ => exact this
          · rw [catL_snoc, cat3]
            simp only [app_cps]
          · intro wr h
            rw [List.append_assoc]
            exact S.fin _ (g2 r wr h)
          · rw [app_cps, List.getLast?_append, ls1]
            rfl
          · obtain ⟨e1, kk, e2⟩ := ls3 q
            subst e2
            exact S.eq.1 e1
          · rw [List.length_append]
            show ts'.length + 1 + _ ≤ _
            omega
          · rw [Str.length_append, Str.length_append]
            omega
end
end OS

namespace OS
open PySem PySem.Spec PyProof.Rows L2
/-! ### isinstance of a caught error with fields; a callee that may raise and does not -/
theorem passF {X : Cx} : Passes (L2.CX X.prog X.w) X E0 := fun _ _ _ _ _ _ _ c => by
  obtain ⟨_, _, _, _, _, _, _, _, _, _, _, _, z⟩ := c
  exact z.elim
/-- the heap has the error's fields at dd -/
def rIsF (K : PySem.W.Frag) (S a : Addr) (cls : Value) (d : Option Addr) : List V → Hp → VK → Prop := fun xs H Q =>
  ∃ (c : V) (cv : Value) (b : Bool) (dd : Addr) (fs : List (Str × V)), xs = [.ref a, c] ∧ cls = .ref S ∧ d = some dd ∧ H dd = some (.xd fs) ∧ (∀ u, RelV c u → u = cv) ∧ PySem.W.kitOne K (.ref S) cv = some b ∧ Q (.bl b) H
theorem call_isF {X : Cx} {a S : Addr} {oe : Obj} {cls : Value} {d : Option Addr} {pn : List (Addr × Obj)} (EC : ExcC X.K S) (hz : Zc cls d oe) (hf : ∃ vs, oe.data = .fields vs) :
    CallR (X.suite a ((a, oe) :: pn)) (.builtin "isinstance") (rIsF X.K S a cls d) := by
  intro pins s σ H xs us Q I rr h
  obtain ⟨c, cv, b, dd, fs, rfl, rfl, rfl, hx, hcv, hk, q⟩ := h
  obtain ⟨u1, u2, rfl, ra, rc⟩ := vals2 rr
  cases ra
  have e := hcv u2 rc
  subst e
  obtain ⟨g, _⟩ := I.pin (a, oe) (List.mem_append_left _ List.mem_cons_self)
  obtain ⟨vs, hv⟩ := hf
  obtain ⟨mA, n1, _⟩ := (I.hok dd _ hx : ObjOk X.prog X.w H s.heap dd (.xd fs))
  obtain ⟨od, ho, _⟩ := lookIn_ns n1
  have nc : PySem.W.notCls oe = true := by
    unfold PySem.W.notCls
    rw [hv]
  have J : PySem.W.InstAt s.heap a oe S (some od) := ⟨g, hz.1, nc, by rw [hz.2]; exact ho⟩
  have hcl : (PySem.W.clsIn X.K S).isSome = true := by
    obtain ⟨cd, hc, _⟩ := PySem.W.any_some EC.hd
    rw [hc]
    rfl
  have Z := PySem.W.kitx_exc (x := a) (od := some od) (ox := oe) hcl EC.hg EC.hk EC.hs EC.ha EC.hn EC.ht EC.hm
  exact PySem.W.kia_one Z I.kIn J hk (fun z => nomatch z) fun tk => ⟨.bl b, H, I.kept (t' := tk) fun _ _ z => z, rfl, q⟩
section
variable {P : Program} {w : World} {K : PySem.W.Frag} {mg : Str → Option Value} {base : Heap}
theorem told_all (T : Txt K mg) {f1 : Addr} {d1 : FuncData} (F1 : Fun K "_law_told" "_law_told" s__law_told f1 d1) (b1 : Binds K d1 ["tree"] []) (m1 : mg "_law_told" = some (.ref f1)) :
    ∀ n : Nat, FnOk P w K mg base CX0 (1+n) f1 d1 ["tree"] (spTold K n)
  | 0 => told_none
  | n + 1 => ok_told F1 T n ⟨told_all T F1 b1 m1 n, b1, F1.kp, m1⟩
end
end OS

namespace OS
open PySem PySem.Spec PyProof.Rows L2
/-! ### depths and lengths of trees -/
mutual
theorem lay_nst : ∀ s : Stm, s.lay = s.nst
  | .msg _ _ _ _ _ => rfl
  | .set _ _ _ => rfl
  | .ask _ _ => rfl
  | .call _ _ => rfl
  | .ite _ _ yes no => by
    show max (blkLay yes) (blkLay no) + 1 = max (blkNst yes) (blkNst no) + 1
    rw [blkLay_nst yes, blkLay_nst no]
  | .whl _ _ b => by
    show blkLay b + 1 = blkNst b + 1
    rw [blkLay_nst b]
theorem blkLay_nst : ∀ b : List Stm, blkLay b = blkNst b
  | [] => rfl
  | s :: r => by
    show max s.lay (blkLay r) = max s.nst (blkNst r)
    rw [lay_nst s, blkLay_nst r]
end
theorem val_dep : ∀ x : Val, dep x.dt ≤ x.dep + 1
  | .num n => by
    unfold Val.dt
    simp only [dep, depL]
    show _ ≤ 0 + 1
    omega
  | .name x => by
    unfold Val.dt
    simp only [dep, depL]
    show _ ≤ 0 + 1
    omega
  | .op s a b => by
    have h1 := val_dep a
    have h2 := val_dep b
    unfold Val.dt
    simp only [dep, depL]
    show _ ≤ max a.dep b.dep + 1 + 1
    omega
theorem strs_dep : ∀ es : List Str, depL (es.map Dt.str) = 0
  | [] => by simp only [List.map_nil, depL]
  | e :: r => by
    rw [List.map_cons]
    simp only [depL, dep]
    rw [strs_dep r]
    rfl
theorem names_dep (es : List Str) : dep (namesDt es) = 1 := by
  unfold namesDt
  simp only [dep]
  rw [strs_dep]
mutual
theorem stm_dep : ∀ {s : Stm}, SOk s → dep s.dt ≤ 4 + 2 * s.nst
  | .msg a b l v x, ho => by
    obtain ⟨_, _, _, n4, _⟩ : Nm a ∧ Nm b ∧ Nm l ∧ VO2 v ∧ Nm x := ho
    have h1 := val_dep v
    have h2 := n4.2
    unfold Stm.dt
    simp only [dep, depL]
    omega
  | .set e x v, ho => by
    obtain ⟨_, _, n4⟩ : Nm e ∧ Nm x ∧ VO2 v := ho
    have h1 := val_dep v
    have h2 := n4.2
    unfold Stm.dt
    simp only [dep, depL]
    omega
  | .ask e x, _ => by
    unfold Stm.dt
    simp only [dep, depL]
    omega
  | .call p cs, _ => by
    have h1 := names_dep cs
    unfold Stm.dt
    simp only [dep, depL]
    rw [h1]
    omega
  | .ite e v yes no, ho => by
    obtain ⟨_, n4, n5, n6⟩ : Nm e ∧ VO2 v ∧ blkOk yes ∧ blkOk no := ho
    have h1 := val_dep v
    have h2 := n4.2
    have h3 := blks_dep n5
    have h4 := blks_dep n6
    unfold Stm.dt
    simp only [dep, depL]
    show _ ≤ 4 + 2 * (max (blkNst yes) (blkNst no) + 1)
    omega
  | .whl e v b, ho => by
    obtain ⟨_, n4, n5⟩ : Nm e ∧ VO2 v ∧ blkOk b := ho
    have h1 := val_dep v
    have h2 := n4.2
    have h3 := blks_dep n5
    unfold Stm.dt
    simp only [dep, depL]
    show _ ≤ 4 + 2 * (blkNst b + 1)
    omega
theorem blks_dep : ∀ {b : List Stm}, blkOk b → depL (blkDts b) ≤ 4 + 2 * blkNst b
  | [], _ => by
    unfold blkDts
    simp only [depL]
    omega
  | s :: r, ho => by
    have ho : SOk s ∧ blkOk r := ho
    have h1 := stm_dep ho.1
    have h2 := blks_dep ho.2
    unfold blkDts
    simp only [depL]
    show _ ≤ 4 + 2 * max s.nst (blkNst r)
    omega
end
theorem blkDt_dep {b : List Stm} (ho : blkOk b) : dep (blkDt b) ≤ 5 + 2 * blkNst b := by
  have := blks_dep ho
  unfold blkDt
  simp only [dep]
  omega
theorem prts_dep : ∀ {ps : List Prt}, (∀ p ∈ ps, POk p) → depL (ps.map Prt.dt) ≤ 8
  | [], _ => by
    simp only [List.map_nil, depL]
    omega
  | p :: r, ho => by
    obtain ⟨_, _, _, _, o5, o6⟩ := ho p (List.mem_cons_self ..)
    have h1 := blkDt_dep o5
    have h2 := prts_dep (ps := r) fun q hq => ho q (List.mem_cons_of_mem _ hq)
    have h3 := names_dep p.params
    have h4 : dep p.dt ≤ 8 := by
      unfold Prt.dt
      simp only [dep, depL]
      rw [h3]
      omega
    rw [List.map_cons]
    simp only [depL]
    omega
theorem tree_dep {t : Tree} (ho : TOk t) (h : blkNst t.body ≤ 2) : dep t.dt < 12 := by
  have h1 := names_dep t.ends
  have h2 := prts_dep ho.po
  have h3 := blkDt_dep ho.bo
  unfold Tree.dt
  simp only [dep, depL]
  rw [h1]
  omega
theorem val_narrow : ∀ x : Val, narrow x.dt
  | .num n => by
    unfold Val.dt
    simp only [narrow, narrowL, List.length_cons, List.length_nil]
    decide
  | .name x => by
    unfold Val.dt
    simp only [narrow, narrowL, List.length_cons, List.length_nil]
    decide
  | .op s a b => by
    unfold Val.dt
    simp only [narrow, narrowL, List.length_cons, List.length_nil]
    exact ⟨by decide, trivial, val_narrow a, val_narrow b, trivial⟩
theorem strs_narrow : ∀ es : List Str, narrowL (es.map Dt.str)
  | [] => by simp only [List.map_nil, narrowL]
  | e :: r => by
    rw [List.map_cons]
    simp only [narrowL, narrow]
    exact ⟨trivial, strs_narrow r⟩
theorem names_narrow {es : List Str} (h : es.length ≤ 100000) : narrow (namesDt es) := by
  unfold namesDt
  simp only [narrow, List.length_map]
  exact ⟨h, strs_narrow es⟩
theorem stm_pos : ∀ s : Stm, 1 ≤ s.wd
  | .msg _ _ _ v _ => by show 1 ≤ 9 + v.wd; omega
  | .set _ _ v => by show 1 ≤ 4 + v.wd; omega
  | .ask _ _ => by show 1 ≤ 3; decide
  | .call _ cs => by show 1 ≤ 4 + 2 * cs.length; omega
  | .ite _ v y n => by show 1 ≤ 4 + v.wd + (2 + blkWd y) + (2 + blkWd n); omega
  | .whl _ v b => by show 1 ≤ 3 + v.wd + (2 + blkWd b); omega
theorem blk_len : ∀ b : List Stm, b.length ≤ blkWd b
  | [] => Nat.le_refl _
  | s :: r => by
    have := stm_pos s
    have := blk_len r
    show r.length + 1 ≤ s.wd + blkWd r
    omega
mutual
theorem stm_narrow : ∀ {s : Stm}, s.wd ≤ 100000 → narrow s.dt
  | .msg a b l v x, _ => by
    unfold Stm.dt
    simp only [narrow, narrowL, List.length_cons, List.length_nil]
    exact ⟨by decide, trivial, trivial, trivial, trivial, val_narrow v, trivial, trivial⟩
  | .set e x v, _ => by
    unfold Stm.dt
    simp only [narrow, narrowL, List.length_cons, List.length_nil]
    exact ⟨by decide, trivial, trivial, trivial, val_narrow v, trivial⟩
  | .ask e x, _ => by
    unfold Stm.dt
    simp only [narrow, narrowL, List.length_cons, List.length_nil]
    exact ⟨by decide, trivial, trivial, trivial, trivial⟩
  | .call p cs, h => by
    have h : 4 + 2 * cs.length ≤ 100000 := h
    have hn := names_narrow (es := cs) (by omega)
    unfold Stm.dt
    simp only [narrow, narrowL, List.length_cons, List.length_nil]
    exact ⟨by decide, trivial, trivial, hn, trivial⟩
  | .ite e v yes no, h => by
    have h : 4 + v.wd + (2 + blkWd yes) + (2 + blkWd no) ≤ 100000 := h
    have h1 := blk_len yes
    have h2 := blk_len no
    have n1 := blks_narrow (b := yes) (by omega)
    have n2 := blks_narrow (b := no) (by omega)
    unfold Stm.dt
    simp only [narrow, narrowL, List.length_cons, List.length_nil, blkDts_len]
    exact ⟨by decide, trivial, trivial, val_narrow v, ⟨by omega, n1⟩, ⟨by omega, n2⟩, trivial⟩
  | .whl e v b, h => by
    have h : 3 + v.wd + (2 + blkWd b) ≤ 100000 := h
    have h1 := blk_len b
    have n1 := blks_narrow (b := b) (by omega)
    unfold Stm.dt
    simp only [narrow, narrowL, List.length_cons, List.length_nil, blkDts_len]
    exact ⟨by decide, trivial, trivial, val_narrow v, ⟨by omega, n1⟩, trivial⟩
theorem blks_narrow : ∀ {b : List Stm}, blkWd b ≤ 100000 → narrowL (blkDts b)
  | [], _ => by
    unfold blkDts
    simp only [narrowL]
  | s :: r, h => by
    have h : s.wd + blkWd r ≤ 100000 := h
    unfold blkDts
    simp only [narrowL]
    exact ⟨stm_narrow (by omega), blks_narrow (by omega)⟩
end
theorem blkDt_narrow {b : List Stm} (h : blkWd b ≤ 100000) : narrow (blkDt b) := by
  have h1 := blk_len b
  have h2 := blks_narrow h
  unfold blkDt
  simp only [narrow, blkDts_len]
  exact ⟨by omega, h2⟩
theorem prts_narrow : ∀ {ps : List Prt}, prtsWd ps ≤ 100000 → narrowL (ps.map Prt.dt) ∧ ps.length ≤ prtsWd ps
  | [], _ => by
    simp only [List.map_nil, narrowL]
    exact ⟨trivial, Nat.le_refl _⟩
  | p :: r, h => by
    have h : prtWd p + prtsWd r ≤ 100000 := h
    have hp : prtWd p = 4 + 2 * p.params.length + (2 + blkWd p.body) := rfl
    have h1 := blkDt_narrow (b := p.body) (by omega)
    have h2 := prts_narrow (ps := r) (by omega)
    have h3 := names_narrow (es := p.params) (by omega)
    rw [List.map_cons]
    simp only [narrowL]
    refine ⟨⟨?_, h2.1⟩, ?_⟩
    · unfold Prt.dt
      simp only [narrow, narrowL, List.length_cons, List.length_nil]
      exact ⟨by decide, trivial, h3, h1, trivial⟩
    · have := h2.2
      show r.length + 1 ≤ prtWd p + prtsWd r
      omega
theorem tree_narrow {t : Tree} (h : t.wd ≤ 100000) : narrow t.dt := by
  have h : 2 + 2 * t.ends.length + prtsWd t.parts + (2 + blkWd t.body) ≤ 100000 := h
  have h1 := names_narrow (es := t.ends) (by omega)
  have h2 := prts_narrow (ps := t.parts) (by omega)
  have h3 := blkDt_narrow (b := t.body) (by omega)
  unfold Tree.dt
  simp only [narrow, narrowL, List.length_cons, List.length_nil, List.length_map]
  have h4 := h2.2
  exact ⟨by decide, h1, ⟨by omega, h2.1⟩, h3, trivial⟩
/-! ### what is printed is read again -/
theorem sub_self (ws r : List Tok2) : Sub (ws ++ r) 0 ws := fun k t e => by
  rw [Nat.zero_add, List.getElem?_append_left (List.getElem?_eq_some_iff.mp e).1]
  exact e
theorem glued_reads {z : Str} {ws : List Tok2} {t : Tree} {L : List Tk} (g : Glued z ws) (h : PT t ws) (ho : TOk t) (hb : blkNst t.body ≤ 2) (hl : Toks tab z.cps.toList 0 L) : Evn rscore (toks2 z L) 0 (.ok t ws.length) := by
  obtain ⟨M, h1, _, h2⟩ := g.ex
  have e := hl.det h1
  subst e
  rw [h2]
  have s := sub_self ws []
  rw [List.append_nil] at s
  refine (score_read h s (fun p hp => ?_) ?_).1 (Nat.lt_irrefl _)
  · obtain ⟨_, _, _, _, _, o6⟩ := ho.po p hp
    rw [blkLay_nst]
    omega
  · rw [blkLay_nst]
    omega
theorem one_more {z m : Str} {ws : List Tok2} {s : Srt} (g : Glued z ws) (hw : Word m s) : ∃ L, Toks tab (z ++ " " ++ m).cps.toList 0 L ∧ toks2 (z ++ " " ++ m) L = ws ++ [(kindS s, m)] ∧ L[ws.length]? = some ⟨s, z.length + 1, z.length + 1 + m.length⟩ := by
  obtain ⟨M, ht, he, h2⟩ := g.ex
  have e0 : (Str.ofString " ").cps.toList = [32] := by decide +kernel
  have gp : Gp [32] := .inr (.inl rfl)
  have ecs : (z ++ " " ++ m).cps.toList = z.cps.toList ++ ([32] ++ m.cps.toList) := by
    show (z ++ (Str.ofString " ") ++ m).cps.toList = _
    rw [app_cps, app_cps, e0, List.append_assoc]
  have hgt := gap_toks (pre := z.cps.toList) gp hw
  have hall := toks_app (x := [32] ++ m.cps.toList) ht he (fun last _ => noMelt_gap gp fun q => absurd q (by decide)) hgt
  rw [← ecs] at hall
  have lm : M.length = ws.length := by
    rw [← h2]
    unfold toks2
    rw [List.length_map]
  obtain ⟨M2, t2, _, e2⟩ := (glued_put g (g := " ") gp_one hw (fun q => absurd q (by decide +kernel))).ex
  have ed := t2.det hall
  subst ed
  refine ⟨_, hall, e2, ?_⟩
  rw [← lm, List.getElem?_append_right (Nat.le_refl _), Nat.sub_self]
  show some (Tk.mk s (z.cps.toList.length + 1) (z.cps.toList.length + 1 + m.cps.toList.length)) = _
  rw [← len_cps, ← len_cps]
theorem more_fails {z m : Str} {ws : List Tok2} {t : Tree} {s : Srt} {L : List Tk} (g : Glued z ws) (hw : Word m s) (h : PT t ws) (ho : TOk t) (hb : blkNst t.body ≤ 2) (hl : Toks tab (z ++ " " ++ m).cps.toList 0 L) :
    Evn rscore (toks2 (z ++ " " ++ m) L) 0 (.bad ws.length) ∧ placeAt L ws.length = ((z.length : Nat) : Int) + 1 := by
  obtain ⟨M, h1, h2, h3⟩ := one_more g hw
  have e := hl.det h1
  subst e
  constructor
  · rw [h2]
    refine (score_read h (sub_self ws _) (fun p hp => ?_) ?_).2 (by rw [List.length_append]; exact Nat.lt_succ_self _)
    · obtain ⟨_, _, _, _, _, o6⟩ := ho.po p hp
      rw [blkLay_nst]
      omega
    · rw [blkLay_nst]
      omega
  · unfold placeAt
    rw [h3]
    show ((z.length + 1 : Nat) : Int) = _
    omega
def mores : List Str := ["part", "a", ")", "7", "}", "?", "ends"]
theorem mores_ok : ∀ x ∈ mores, ∃ s, Word x s ∧ x.length ≤ 15 := by
  intro x hx
  simp only [mores, List.mem_cons, List.not_mem_nil, or_false] at hx
  rcases hx with rfl | rfl | rfl | rfl | rfl | rfl | rfl
  · exact ⟨.word, lit_ok (by decide +kernel)⟩
  · exact ⟨.name, lit_ok (by decide +kernel)⟩
  · exact ⟨.sign, lit_ok (by decide +kernel)⟩
  · exact ⟨.number, lit_ok (by decide +kernel)⟩
  · exact ⟨.sign, lit_ok (by decide +kernel)⟩
  · exact ⟨.wrong, lit_ok (by decide +kernel)⟩
  · exact ⟨.word, lit_ok (by decide +kernel)⟩
end OS

namespace OS
open PySem PySem.Spec PyProof.Rows L2
/-! ### defs that are called while an error is handled, and raise nothing -/
/-- such a def: as a def elsewhere, but with the error that is handled beside it -/
structure FnZ (P : Program) (w : World) (K : PySem.W.Frag) (mg : Str → Option Value) (base : Heap) (k : Nat) (f : Addr) (fd : FuncData) (ps : List Str) (sp : Sp) : Prop where
  len : ∀ vs H Q, sp vs H Q E0 → vs.length = ps.length
  run : ∀ (A : Around) (outer : List Env) (s : Shared) (H : Hp) (args : Args) (us : List Value) (vs : List V) (Q : VK) (q : Addr × Obj), L2H.RoomH k A → A.handled = some (.ref q.1) → L2H.PinOk outer H s q →
    Env0 P w K mg base A outer s H → BindsTo s fd args (ps.zip us) → Vals vs us → sp vs H Q E0 → codeAny (model P w) A (.call (.ref f) args) (CR CX0 outer P w H s Q E0) s
structure CalZ (P : Program) (w : World) (K : PySem.W.Frag) (mg : Str → Option Value) (base : Heap) (k : Nat) (x : Str) (ps : List Str) (sp : Sp) (f : Addr) (fd : FuncData) : Prop where
  G : FnZ P w K mg base k f fd ps sp
  b : Binds K fd ps []
  k : PySem.W.keepIn K (.ref f) = true
  m : mg x = some (.ref f)
/-- an error is handled here -/
def HzC (X : Cx) : Prop := ∃ q : Addr × Obj, X.A.handled = some (.ref q.1) ∧ q ∈ X.pn
section
variable {P : Program} {w : World} {K : PySem.W.Frag} {mg : Str → Option Value} {base : Heap}
theorem fun_okZ {x qual : Str} {st : Stmt} {f : Addr} {fd : FuncData} {N ps : List Str} {k : Nat} {sp : Sp} (F : Fun K x qual st f fd) (S : FnScope N ps (defScope st)) (len : ∀ vs H Q, sp vs H Q E0 → vs.length = ps.length)
    (hbody : ∀ (cdv : Value) (A : Around) (outer : List Env) (s : Shared) (H : Hp) (vs : List V) (Q : VK) (q : Addr × Obj), A.handled = some (.ref q.1) → L2H.RoomH k (A.deeper (envOfC qual (defScope st) s.heap.objs.size f cdv)) → sp vs H Q E0 →
      ∃ t, PSs (L2H.cxH CX0 P w K mg base N qual (defScope st) f cdv A outer s H E0 q) (defBody st) t ∧ t { nx := fun _ H' => Q .non H', rt := Q } (L2.start N vs) H) : FnZ P w K mg base (k + 1) f fd ps sp := by
  obtain ⟨oc, od, kV, doc, pm, an, cdv, ct, osl, rfl, lk, hcd⟩ := F.ex
  refine ⟨len, fun A outer s H args us vs Q q room hq pin env bind rv wish => ?_⟩
  have nv := len vs H Q wish
  have kin : K.In s.heap := env.mod.kin.keeps (fun b o z => (env.bs b o z).1)
  have nolim : s.heap.NoLimit := env.mod.nolimit.keeps (fun b o z => (env.bs b o z).1)
  have nm : ∀ y ∈ ps.zip us, (defScope st).names.lookup y.1 = some .local ∨ ((defScope st).names.lookup y.1 = some .cell ∧ ((cellsFrom (s.heap.objs.size + 1) (defScope st).names []).lookup y.1).isSome = true) := by
    rintro ⟨n, v⟩ hy
    exact (S.par n (List.of_mem_zip hy).1).imp id fun z => ⟨z, PySem.W.cellsFrom_some _ _ _ (.inl z)⟩
  refine codeAny_call_function room.depth (kin _ _ lk) rfl S.co S.gen rfl (PySem.W.codeRec_of kin hcd) (bind _ _ _ _ (wpAny_newFunctionEnv_cells S.kind nm ?_))
  intro en hen s1 start
  subst hen
  refine ⟨nolim.keeps start.toInCall.keep, codeAny_func ?_⟩
  obtain ⟨t, term, goal⟩ := hbody cdv A outer s H vs Q q hq (room.deeper _) wish
  have inv := L2H.inv_startH (CX := CX0) (E := E0) S pin env nv rv start
  refine wpAny_mono (term.run [] s1 (L2.start N vs) H _ inv goal) (fun out s2 res => ?_) (fun _ _ z => z)
  cases out with
  | brk => exact absurd res (fun ⟨_, _, _, z⟩ => z)
  | cont => exact absurd res (fun ⟨_, _, _, z⟩ => z)
  | next =>
    obtain ⟨σ2, H2, J, z⟩ := res
    exact ⟨.non, H2, J.os, J.bare, J.base, J.hok, rfl, z⟩
  | ret u =>
    obtain ⟨v2, σ2, H2, J, r2, z⟩ := res
    exact ⟨v2, H2, J.os, J.bare, J.base, J.hok, r2, z⟩
theorem pe_callZ {X : Cx} {k : Nat} {f : Addr} {fd : FuncData} {ps : List Str} {sp : Sp} {x : Str} {np pos : Pos} {e : Expr} {es : List Expr} {t : TA} (c : CalZ X.prog X.w X.K X.mg X.base k x ps sp f fd) (room : L2H.RoomH k X.A) (hc : HzC X) (hg : Gl X x) (ha : PA X (e :: es) t)
    (hdb : (x == ("__debug__" : Str)) = false := by decide) (hst : starEach (e :: es) X.env = (false, eval e X.env) :: starEach es X.env := by rfl) (hpl : (backTo pos (starEach es X.env)).any (·.1) = false := by rfl) :
    PE X (.Call (.Name x np) (e :: es) [] pos) (tCallS sp (fun _ => E0) t) := by
  refine ⟨fun pins s σ H Q I h => ?_⟩
  refine wpAny_Call_Name_kw (ld_glob I hg c.m ?_ hdb)
  refine PySem.W.callWith_K (h₀ := X.base) I.ok.mod.kin c.k (thn (ha.run pos pins s σ H _ I h) ?_) hst hpl
  rintro us s1 ⟨vs, H1, J, rv, wish⟩
  refine ⟨J.kIn, ?_⟩
  obtain ⟨q, hq, hp⟩ := hc
  have nu : us.length = ps.length := rv.length.symm.trans (c.G.len _ _ _ wish)
  have bind := c.b s1 us J.kIn (by rw [List.append_nil]; exact nu)
  rw [List.append_nil] at bind
  obtain ⟨g1, g2, g3, g4, g5⟩ := J.pin q (List.mem_append_left _ hp)
  have pin : L2H.PinOk X.stack H1 s1 q := ⟨g1, g2, fun hm => (List.mem_cons.mp (J.stkSub q.1 hm)).elim g3 g4, g5⟩
  refine wpAny_call (codeAny_mono (c.G.run X.A X.stack s1 H1 ⟨us, []⟩ us vs Q q room hq pin J.env0 bind rv wish) ?_)
  intro out s2 res
  cases out with
  | error z => exact False.elim res
  | ok fl =>
    cases fl with
    | ret u => exact J.after res
    | next => exact False.elim res
    | brk => exact False.elim res
    | cont => exact False.elim res
def spSameI : Sp := fun vs H Q _ => ∃ i : Int, vs = [.int i, .int i] ∧ Q (.bl true) H
theorem ok_is_integerZ {f : Addr} {fd : FuncData} (F : Fun K "_law_is_integer" "_law_is_integer" s__law_is_integer f fd) (T : Txt K mg) : FnZ P w K mg base (0+1) f fd ["actual"] spIsInt := by
  refine fun_okZ F sc__law_is_integer (fun vs H Q h => ?_) (fun cdv A outer s H vs Q q hq room h => ?_)
  · obtain ⟨i, rfl, _⟩ := h
    rfl
  · obtain ⟨i, rfl, k⟩ := h
    refine ⟨_, (pss_one (ps_ret (pe_and (pe_callB call_isi (by rfl) T.isinstance (by decide +kernel) (pa_cons (pv 0) (pa_cons (pe_bltn (v := .ty "int") (u := Value.type "int") (by rfl) T.int (by decide +kernel) rfl) pa_nil))) (pe_one (pe_not (pe_callB call_isi (by rfl) T.isinstance (by decide +kernel) (pa_cons (pv 0) (pa_cons (pe_bltn (v := .ty "bool") (u := Value.type "bool") (by rfl) T.bool (by decide +kernel) rfl) pa_nil)))))))), ?_⟩
    refine ⟨_, rfl, _, _, .type "int", .type "int", true, rfl, .ty _, .base (.int i), kit_ty (by decide +kernel), true, rfl, iteT ?_⟩
    exact ⟨_, rfl, _, _, .type "int", .type "bool", false, rfl, .ty _, .base (.int i), kit_ty (by decide +kernel), false, rfl, k⟩
theorem ok_sameZ {f : Addr} {fd : FuncData} (F : Fun K "_law_same" "_law_same" s__law_same f fd) (T : Txt K mg) {f_i : Addr} {d_i : FuncData} (z__law_is_integer : CalZ P w K mg base 1 "_law_is_integer" ["actual"] spIsInt f_i d_i) : FnZ P w K mg base (1+1) f fd ["actual", "expected"] spSameI := by
  refine fun_okZ F sc__law_same (fun vs H Q h => ?_) (fun cdv A outer s H vs Q q hq room h => ?_)
  · obtain ⟨i, rfl, _⟩ := h
    rfl
  · obtain ⟨i, rfl, k⟩ := h
    have hz : HzC (L2H.cxH CX0 P w K mg base ["actual", "expected", "key"] "_law_same" (defScope s__law_same) f cdv A outer s H E0 q) := ⟨q, hq, List.mem_singleton.mpr rfl⟩
    refine ⟨_, (pss_cons (ps_if (pt_cmpR op_isN (pv 1) pe_non (nomark _)) (pss_one (ps_ret (pe_cmpR op_isN (pv 0) pe_non (nomark _)))) pss_nil)
      (pss_cons (ps_if (pt_val (pe_callB call_isi (by rfl) T.isinstance (by decide +kernel) (pa_cons (pv 1) (pa_cons (pe_bltn (v := .ty "bool") (u := Value.type "bool") (by rfl) T.bool (by decide +kernel) rfl) pa_nil)))) (pss_one (ps_ret (pe_and (pe_callB call_isi (by rfl) T.isinstance (by decide +kernel) (pa_cons (pv 0) (pa_cons (pe_bltn (v := .ty "bool") (u := Value.type "bool") (by rfl) T.bool (by decide +kernel) rfl) pa_nil))) (pe_one (pe_cmpR op_eq (pv 0) (pv 1) (nomark _)))))) pss_nil)
      (pss_cons (ps_if (pt_val (pe_callB call_isi (by rfl) T.isinstance (by decide +kernel) (pa_cons (pv 1) (pa_cons (pe_bltn (v := .ty "int") (u := Value.type "int") (by rfl) T.int (by decide +kernel) rfl) pa_nil)))) (pss_one (ps_ret (pe_and (pe_callZ z__law_is_integer (room.mono (by decide)) hz (by rfl) (pa_cons (pv 0) pa_nil)) (pe_one (pe_cmpR op_eq (pv 0) (pv 1) (nomark _)))))) pss_nil)
      pss_never))), ?_⟩
    refine ⟨_, rfl, rfl, _, rfl, iteF ?_⟩
    refine ⟨_, rfl, _, _, .type "int", .type "bool", false, rfl, .ty _, .base (.int i), kit_ty (by decide +kernel), false, rfl, iteF ?_⟩
    refine ⟨_, rfl, _, _, .type "int", .type "int", true, rfl, .ty _, .base (.int i), kit_ty (by decide +kernel), true, rfl, iteT ?_⟩
    refine ⟨_, rfl, i, rfl, true, rfl, iteT ?_⟩
    refine ⟨_, rfl, _, rfl, rfl, ?_⟩
    rw [decide_eq_true rfl]
    exact k
end
end OS

namespace OS
open PySem PySem.Spec PyProof.Rows L2
/-! ### the law k02 -/
section
variable {P : Program} {w : World} {K : PySem.W.Frag} {mg : Str → Option Value} {base : Heap} {CS CE : Addr}
def spLaw (K : PySem.W.Frag) : Sp := fun vs H Q _ => ∃ (a : Addr) (ns : List Int), vs = [.ref a] ∧ SqL K H a (ns.map V.int) ∧ ns.length ≤ 63 ∧ ∀ H', Q (.bl true) H'
theorem ok_law {f : Addr} {fd : FuncData} (F : Fun K "law" "law" s_law f fd) (T : Txt K mg) (R : XfC K CS) (IE : ExcC K CS) (hno : PySem.W.findIn K (.ref CS) "start" = some none) (te : PySem.W.exmOne K (.ref CS) (.ref CS) = some true) (gC : mg "SyntaxProblem" = some (.ref CS)) (gE : mg "ScoreError" = some (.ref CE)) (kE : PySem.W.kitOne K (.ref CS) (.ref CE) = some true)
    {f__law_take : Addr} {d__law_take : FuncData} (c__law_take : Cal P w K mg base 1 "_law_take" ["tape", "many"] spTake f__law_take d__law_take) {f__law_tape : Addr} {d__law_tape : FuncData} (c__law_tape : Cal P w K mg base 1 "_law_tape" ["script"] (spTape K) f__law_tape d__law_tape) {f__law_tree : Addr} {d__law_tree : FuncData} (c__law_tree : Cal P w K mg base 16 "_law_tree" ["tape", "depth", "most"] (spTreeD K 3) f__law_tree d__law_tree) {f__law_put_tree : Addr} {d__law_put_tree : FuncData} (c__law_put_tree : Cal P w K mg base 11 "_law_put_tree" ["tape", "out", "tree"] (spPT K 3) f__law_put_tree d__law_put_tree) {f__law_same : Addr} {d__law_same : FuncData} (c__law_same : Cal P w K mg base 24 "_law_same" ["actual", "expected"] (spSame K 12) f__law_same d__law_same) {f__law_value : Addr} {d__law_value : FuncData} (c__law_value : Cal P w K mg base 7 "_law_value" ["tape", "depth"] (spVal K 4) f__law_value d__law_value) {f__law_told : Addr} {d__law_told : FuncData} (c__law_told : Cal P w K mg base 5 "_law_told" ["tree"] (spTold K 4) f__law_told d__law_told)
    {f_print_tree : Addr} {d_print_tree : FuncData} (c_print_tree : Cal P w K mg base 6 "print_tree" ["tree"] (spPrT K) f_print_tree d_print_tree) {f_print_value : Addr} {d_print_value : FuncData} (c_print_value : Cal P w K mg base 3 "print_value" ["tree"] (spPrV K) f_print_value d_print_value) {f_read_tree : Addr} {d_read_tree : FuncData} (c_read_tree : CalX P w K mg base 100 "read_tree" ["text"] (spTree K CS) f_read_tree d_read_tree) {f_z : Addr} {d_z : FuncData} (z__law_same : CalZ P w K mg base 2 "_law_same" ["actual", "expected"] spSameI f_z d_z) : FnOk P w K mg base CX0 102 f fd ["script"] (spLaw K) := by
  refine F.ok sc_law (fun vs H Q E h => ?_) (fun cdv A outer s H vs Q E hr h => ?_)
  · obtain ⟨a, ns, rfl, _⟩ := h
    rfl
  · obtain ⟨a, ns, rfl, hS, h63, k⟩ := h
    have hu := hu_of hr
    have hr1 : Room 100 _ := hr.mono (by decide)
    have hr2 : Room 24 _ := hr.mono (by decide)
    refine ⟨_, (pss_cons (ps_set (i := 1) sc_law.nd rfl (.inl rfl) (pe_call c__law_tape.G (hr.mono (by decide)) (by rfl) c__law_tape.m c__law_tape.k c__law_tape.b .nil pass0 (pa_cons (pv 0) pa_nil)))
      (pss_cons (ps_set (i := 2) sc_law.nd rfl (.inl rfl) (pe_call c__law_tree.G (hr.mono (by decide)) (by rfl) c__law_tree.m c__law_tree.k c__law_tree.b .nil pass0 (pa_cons (pv 1) (pa_cons pe_int (pa_cons pe_int pa_nil)))))
      (pss_cons (ps_set (i := 3) sc_law.nd rfl (.inl rfl) (pe_disp (pps_cons pe_str pe_str pps_nil) (by rfl) (by rfl) (fun z => by cases z) (by decide)))
      (pss_cons (ps_expr (pe_call c__law_put_tree.G (hr.mono (by decide)) (by rfl) c__law_put_tree.m c__law_put_tree.k c__law_put_tree.b .nil pass0 (pa_cons (pv 1) (pa_cons (pv 3) (pa_cons (pv 2) pa_nil)))))
      (pss_cons (ps_if (PW.pt (pw_or (pt_cmpR op_gt (pe_callB call_len_str (by rfl) T.len PySem.boot_len (pa_cons (pe_dget hu (pv 3) pe_str (fun _ _ => rfl)) pa_nil)) pe_int (nomark _)) (pw_or1 (pt_cmpR op_gt (pe_callB call_len_str (by rfl) T.len PySem.boot_len (pa_cons (pe_call c_print_tree.G (hr.mono (by decide)) (by rfl) c_print_tree.m c_print_tree.k c_print_tree.b .nil pass0 (pa_cons (pv 2) pa_nil)) pa_nil)) pe_int (nomark _))))) (pss_one (ps_ret pe_bl)) pss_nil)
      (pss_cons (ps_if (PW.pt (pw_or (pt_not (pt_val (pe_call c__law_same.G (hr.mono (by decide)) (by rfl) c__law_same.m c__law_same.k c__law_same.b .nil pass0 (pa_cons (pe_call c_read_tree.G (hr.mono (by decide)) (by rfl) c_read_tree.m c_read_tree.k c_read_tree.b .nil passF (pa_cons (pe_dget hu (pv 3) pe_str (fun _ _ => rfl)) pa_nil)) (pa_cons (pv 2) pa_nil))))) (pw_or1 (pt_not (pt_val (pe_call c__law_same.G (hr.mono (by decide)) (by rfl) c__law_same.m c__law_same.k c__law_same.b .nil pass0 (pa_cons (pe_call c_read_tree.G (hr.mono (by decide)) (by rfl) c_read_tree.m c_read_tree.k c_read_tree.b .nil passF (pa_cons (pe_call c_print_tree.G (hr.mono (by decide)) (by rfl) c_print_tree.m c_print_tree.k c_print_tree.b .nil pass0 (pa_cons (pv 2) pa_nil)) pa_nil)) (pa_cons (pv 2) pa_nil)))))))) (pss_one (ps_ret pe_bl)) pss_nil)
      (pss_cons (ps_set (i := 4) sc_law.nd rfl (.inl rfl) (pe_call c__law_value.G (hr.mono (by decide)) (by rfl) c__law_value.m c__law_value.k c__law_value.b .nil pass0 (pa_cons (pv 1) (pa_cons pe_int pa_nil))))
      (pss_cons (ps_if (pt_not (pt_val (pe_call c__law_same.G (hr.mono (by decide)) (by rfl) c__law_same.m c__law_same.k c__law_same.b .nil pass0 (pa_cons (pe_call c_print_value.G (hr.mono (by decide)) (by rfl) c_print_value.m c_print_value.k c_print_value.b .nil pass0 (pa_cons (pv 4) pa_nil)) (pa_cons (pe_call c__law_told.G (hr.mono (by decide)) (by rfl) c__law_told.m c__law_told.k c__law_told.b .nil pass0 (pa_cons (pv 4) pa_nil)) pa_nil))))) (pss_one (ps_ret pe_bl)) pss_nil)
      (pss_cons (ps_set (i := 5) sc_law.nd rfl (.inl rfl) (pe_ix ix_list (pe_lst (pa_cons pe_str (pa_cons pe_str (pa_cons pe_str (pa_cons pe_str (pa_cons pe_str (pa_cons pe_str (pa_cons pe_str pa_nil)))))))) (pe_call c__law_take.G (hr.mono (by decide)) (by rfl) c__law_take.m c__law_take.k c__law_take.b .nil pass0 (pa_cons (pv 1) (pa_cons pe_int pa_nil))) (fun _ _ => rfl)))
      (pss_cons (ps_try_as (i := 6) (tb := fun W => tDrop (tCallS (spTree K CS) (WE W) (tCons _ tNil))) (ts := fun a cls d => tRet (tAndV (tCB (rIsF K CS a cls d) (tCons (tVar 6) (tCons (tC (.ref CE)) tNil))) (tCallS spSameI (fun _ => E0) (tCons (tXf a cls d CS "start" (tVar 6)) (tCons _ tNil))))) (Wout := fun _ _ _ _ => False) rfl rfl sc_law.nd rfl rfl ⟨rfl, by decide, .inl gC⟩ takes0
      (fun W pn xe tk _ => pss_one (ps_expr (by exact (pe_callS c_read_tree.G hr1 rfl c_read_tree.m c_read_tree.k c_read_tree.b (fun σ => passAt tk σ) (by exact (pa_cons (pe_op op_add_str (pe_op op_add_str (pe_dget hu (pv 3) pe_str (fun _ _ => rfl)) pe_str) (pv 5)) pa_nil))))))
      (fun a oe cls d pn hz hf => pss_one (ps_ret (by exact (pe_and (pe_callB (call_isF IE hz hf) (by rfl) T.isinstance (by decide +kernel) (pa_cons (pv 6) (pa_cons (pe_glob rfl gE relR) pa_nil))) (pe_one (pe_callZ z__law_same (L2H.RoomH.mono (j := 2) (k := 24) ⟨hr2.dp, hr2.un⟩ (by decide)) ⟨(a, oe), rfl, List.mem_cons_self⟩ (by rfl) (pa_cons (pe_xf R hno hz hf (pv 6)) (pa_cons (pe_op op_add (pe_callB call_len_str (by rfl) T.len PySem.boot_len (pa_cons (pe_dget hu (pv 3) pe_str (fun _ _ => rfl)) pa_nil)) pe_int) pa_nil)))))))))
      (pss_one (ps_ret pe_bl)))))))))))), ?_⟩
    refine ⟨_, rfl, a, ns, rfl, hS, h63, fun d c H1 s1 nd nc T1 => ?_⟩
    refine ⟨_, rfl, d, c, 2, 5, rfl, by omega, by omega, by omega, T1, fun v x H2 ox wx ax T2 K2 => ?_⟩
    have g2 : gwd 2 = 1040 := rfl
    have wxd : x.wd ≤ 5916 := by have := wx.1; omega
    have xdep := tree_dep ox wx.2
    have xnar := tree_narrow (t := x) (by omega)
    intro o ho
    refine ⟨upd_same, outD "", rfl, by decide, ?_⟩
    have T3 : Tape (upd (upd H2 o (.dK [])) o (.dK (mergeK [] (outD "")))) d c := (T2.put (T2.ne ho)).put (T2.ne ho)
    have O3 : OutAt (upd (upd H2 o (.dK [])) o (.dK (mergeK [] (outD "")))) o "" := by
      show _ = some (HO.dK (outD ""))
      rw [upd_same]
      rfl
    have s3 : Same H2 (upd (upd H2 o (.dK [])) o (.dK (mergeK [] (outD "")))) := same_off ho (same_upd ho)
    have ax3 := At.keep s3 ax
    have ond := (T2.ne ho).1
    have onc := (T2.ne ho).2
    generalize upd (upd H2 o (.dK [])) o (.dK (mergeK [] (outD ""))) = H3 at T3 O3 ax3
    have e0 : (Str.ofString "").length = 0 := by decide +kernel
    refine ⟨_, rfl, _, rfl, _, rfl, d, c, o, "", v, x, [], rfl, ox, by have := wx.2; omega, ax3, ⟨T3, O3, ond, onc, glued_nil⟩, by rw [e0]; omega, fun z H4 ws hws lz I4 K4 => ?_⟩
    rw [List.nil_append] at I4
    rw [e0] at lz
    have w4 := K4.rws T3 O3
    have ax4 := At.rws w4 ax3
    refine ⟨_, rfl, o, _, rfl, out_get I4.O, z, rfl, sz9 (by omega), _, _, rfl, rfl, _, rfl, ?_⟩
    refine ite2 (fun _ => iteT (k _)) (fun c1 => ?_)
    have hz : z.length ≤ 5900 := by
      refine Nat.le_of_not_lt fun q => c1 (decide_eq_true ?_)
      omega
    refine ⟨_, rfl, v, x, rfl, ox, by omega, ax4, fun z2 W2 H5 s5 g5 p5 l5 r5 => ?_⟩
    refine ⟨z2, rfl, sz9 l5, _, _, rfl, rfl, _, rfl, ?_⟩
    refine ite2 (fun _ => k _) (fun c2 => ?_)
    have hz2 : z2.length ≤ 6000 := by
      refine Nat.le_of_not_lt fun q => c2 (decide_eq_true ?_)
      omega
    have I5 := I4.keep s5
    have ax5 := At.keep s5 ax4
    refine ⟨_, rfl, o, _, rfl, out_get I5.O, z, rfl, by omega, fun L toks hl => ⟨fun va ta j H6 ev hat s6 => ?_, fun j dE H6 ev hj s6 hx => ?_⟩⟩
    rotate_left
    · have q := (glued_reads I5.gl hws ox wx.2 toks).det ev
      cases q
    have q := (glued_reads I5.gl hws ox wx.2 toks).det ev
    injection q with q1 q2
    subst q1
    have ax6 := At.keep s6 ax5
    have I6 := I5.keep s6
    refine ⟨_, rfl, va, v, _, rfl, hat, ax6, xdep, xnar, true, rfl, ?_⟩
    refine iteF ?_
    refine ⟨_, rfl, v, x, rfl, ox, by omega, ax6, fun z3 W3 H7 s7 g7 p7 l7 r7 => ?_⟩
    have e3 := r5.det r7
    subst e3
    have ax7 := At.keep s7 ax6
    have I7 := I6.keep s7
    refine ⟨z2, rfl, by omega, fun L7 toks7 hl7 => ⟨fun vb tb j7 H8 ev7 hat7 s8 => ?_, fun j dE H8 ev7 hj s8 hx => ?_⟩⟩
    rotate_left
    · have q := (glued_reads g7 p7 ox wx.2 toks7).det ev7
      cases q
    have q := (glued_reads g7 p7 ox wx.2 toks7).det ev7
    injection q with q1 q2
    subst q1
    have ax8 := At.keep s8 ax7
    have I8 := I7.keep s8
    refine ⟨_, rfl, vb, v, _, rfl, hat7, ax8, xdep, xnar, true, rfl, ?_⟩
    refine iteF ?_
    refine ⟨_, rfl, d, c, 3, rfl, by omega, by omega, I8.T, fun vv xx H9 ovv dvv avv T9 K9 => ?_⟩
    have O9 : OutAt H9 o z := K9 o _ I8.od I8.O
    have wvv : xx.wd ≤ 1000 := by
      have h1 := wd_le xx
      have h2 := fwd_mono dvv
      have h3 : fwd 3 = 45 := rfl
      omega
    refine ⟨_, rfl, vv, xx, rfl, ovv, wvv, avv, fun H10 s10 => ?_⟩
    refine ⟨_, rfl, vv, xx, rfl, by omega, wvv, ovv, At.keep s10 avv, fun H11 s11 => ?_⟩
    have T11 := (T9.keep s10).keep s11
    have O11 : OutAt H11 o z := s11 _ _ (s10 _ _ O9)
    refine ⟨_, _, .str (tell xx), rfl, by unfold At; rfl, by unfold At; rfl, by unfold dep; decide, by unfold narrow; trivial, true, rfl, ?_⟩
    refine iteF ?_
    refine ⟨by show 7 ≤ sizeLine; decide, fun M hM => ?_⟩
    have sM := same_upd (o := .lst (mores.map V.str)) hM
    refine ⟨_, rfl, d, c, 7, rfl, T11.keep sM, by decide, by decide, fun rr H12 r0 r1 T12 O12 => ?_⟩
    have w12 := (T11.keep sM).rws O12.kept
    obtain ⟨mx, hmx, ex⟩ := str_at (es := mores) r0 r1
    refine ⟨M, _, _, _, rfl, rfl, SqL.of (w12.2 _ _ upd_same), ex, ?_⟩
    have o12 : OutAt H12 o z := by
      show H12 o = _
      rw [O12 o I8.od]
      exact sM _ _ O11
    obtain ⟨sm, hmw, hml⟩ := mores_ok mx hmx
    have l1 : (Str.ofString " ").length = 1 := by decide +kernel
    refine ⟨_, rfl, o, _, rfl, out_get o12, _, _, rfl, rfl, ?_, _, rfl, _, _, rfl, rfl, ?_, z ++ " " ++ mx, rfl, ?_, fun L13 toks13 hl13 => ⟨fun vc tc j13 H13 ev13 hat13 s13 => ?_, fun j13 dE H13 ev13 hj13 s13 hx => ?_⟩⟩
    · rw [l1]; exact sz9 (by omega)
    · rw [Str.length_append, l1]; exact sz9 (by omega)
    · rw [Str.length_append, Str.length_append, l1]; omega
    · have q := (more_fails I8.gl hmw hws ox wx.2 toks13).1.det ev13
      cases q
    · obtain ⟨f1, f2⟩ := more_fails I8.gl hmw hws ox wx.2 toks13
      have q := f1.det ev13
      injection q with q
      subst q
      rw [f2] at hx
      refine ⟨true, te, fun _ a0 ha0 => ?_, fun q => Bool.noConfusion q⟩
      obtain ⟨dd, e1, e2⟩ := hx
      have o13 := s13 _ _ o12
      refine ⟨_, rfl, .ref CE, .ref CE, true, dd, _, rfl, rfl, e1, e2, fun u r => (by cases r; rfl), kE, true, rfl, iteT ?_⟩
      refine ⟨_, rfl, rfl, rfl, dd, _, _, e1, e2, (by rw [List.lookup_cons, beq_self_eq_true]), ?_⟩
      exact ⟨_, rfl, o, _, rfl, out_get o13, z, rfl, sz9 (by omega), _, _, rfl, rfl, _, rfl, k _⟩
end
end OS

namespace OS
open PySem PySem.Spec PyProof.Rows L2
/-- a written tuple of texts -/
structure TupObj (o : Obj) (xs : List Str) : Prop where
  ex : ∃ (its : Array Value) (n : Nat), o.cls = .type "tuple" ∧ o.data = .seq its n ∧ its.size ≤ sizeLine ∧ Vals (xs.map V.str) its.toList
theorem TupObj.seq {K : PySem.W.Frag} {H : Hp} {p : Addr} {o : Obj} {xs : List Str} (v : TupObj o xs) (y : K.lookup p = some o) : SqT K H p (xs.map V.str) := by
  obtain ⟨its, n, h1, h2, h3, h4⟩ := v.ex
  exact .inr ⟨o, its, n, y, h1, h2, h3, h4⟩


/-- the error's class is what its clause names -/
theorem exm_is {K : PySem.W.Frag} {S : Addr} (hb : PySem.W.subIn K (.ref S) (.type "BaseException") = some true) (hc : PySem.W.isClsIn K S = true) (ht : PySem.W.typeIn K (.ref S) = some (.type "type")) (hs : PySem.W.subIn K (.ref S) (.ref S) = some true) : PySem.W.exmOne K (.ref S) (.ref S) = some true := by
  unfold PySem.W.isClsIn at hc
  simp [PySem.W.exmOne, PySem.W.kitCls, hb, hc, ht, hs]
end OS

set_option maxHeartbeats 4000000
namespace OS
open PySem PySem.Spec PyProof.Rows L2
theorem all_mk {l : PySem.W.OpenLaw} {w : World} {K : PySem.W.Frag} {h : Heap} {mg : Str → Option Value} {fa : Addr} (X : K.In h) (G : h.Ns mainGlobals mg) (hfa : mg "law" = some (.ref fa))
    {C_Reader : Addr}
    {C_SyntaxProblem : Addr}
    {C_ScoreError : Addr}
    {f_run_end : Addr} {od_run_end an_run_end : Option Addr} {sl_run_end : Array (Option Value)} {oc_run_end kV_run_end dc_run_end pm_run_end cd_run_end ct_run_end : Value}
    {f_line_end : Addr} {od_line_end an_line_end : Option Addr} {sl_line_end : Array (Option Value)} {oc_line_end kV_line_end dc_line_end pm_line_end cd_line_end ct_line_end : Value}
    {f_token_at : Addr} {od_token_at an_token_at : Option Addr} {sl_token_at : Array (Option Value)} {oc_token_at kV_token_at dc_token_at pm_token_at cd_token_at ct_token_at : Value}
    {f_tokens : Addr} {od_tokens an_tokens : Option Addr} {sl_tokens : Array (Option Value)} {oc_tokens kV_tokens dc_tokens pm_tokens cd_tokens ct_tokens : Value}
    {f_number_value : Addr} {od_number_value an_number_value : Option Addr} {sl_number_value : Array (Option Value)} {oc_number_value kV_number_value dc_number_value pm_number_value cd_number_value ct_number_value : Value}
    {f_Reader___init__ : Addr} {od_Reader___init__ an_Reader___init__ : Option Addr} {sl_Reader___init__ : Array (Option Value)} {oc_Reader___init__ kV_Reader___init__ dc_Reader___init__ pm_Reader___init__ cd_Reader___init__ ct_Reader___init__ : Value}
    {f_Reader_has_more : Addr} {od_Reader_has_more an_Reader_has_more : Option Addr} {sl_Reader_has_more : Array (Option Value)} {oc_Reader_has_more kV_Reader_has_more dc_Reader_has_more pm_Reader_has_more cd_Reader_has_more ct_Reader_has_more : Value}
    {f_Reader_next_word : Addr} {od_Reader_next_word an_Reader_next_word : Option Addr} {sl_Reader_next_word : Array (Option Value)} {oc_Reader_next_word kV_Reader_next_word dc_Reader_next_word pm_Reader_next_word cd_Reader_next_word ct_Reader_next_word : Value}
    {f_Reader_next_sort : Addr} {od_Reader_next_sort an_Reader_next_sort : Option Addr} {sl_Reader_next_sort : Array (Option Value)} {oc_Reader_next_sort kV_Reader_next_sort dc_Reader_next_sort pm_Reader_next_sort cd_Reader_next_sort ct_Reader_next_sort : Value}
    {f_Reader_fail : Addr} {od_Reader_fail an_Reader_fail : Option Addr} {sl_Reader_fail : Array (Option Value)} {oc_Reader_fail kV_Reader_fail dc_Reader_fail pm_Reader_fail cd_Reader_fail ct_Reader_fail : Value}
    {f_Reader_take : Addr} {od_Reader_take an_Reader_take : Option Addr} {sl_Reader_take : Array (Option Value)} {oc_Reader_take kV_Reader_take dc_Reader_take pm_Reader_take cd_Reader_take ct_Reader_take : Value}
    {f_Reader_take_sort : Addr} {od_Reader_take_sort an_Reader_take_sort : Option Addr} {sl_Reader_take_sort : Array (Option Value)} {oc_Reader_take_sort kV_Reader_take_sort dc_Reader_take_sort pm_Reader_take_sort cd_Reader_take_sort ct_Reader_take_sort : Value}
    {f_Reader_read_name : Addr} {od_Reader_read_name an_Reader_read_name : Option Addr} {sl_Reader_read_name : Array (Option Value)} {oc_Reader_read_name kV_Reader_read_name dc_Reader_read_name pm_Reader_read_name cd_Reader_read_name ct_Reader_read_name : Value}
    {f_Reader_read_names : Addr} {od_Reader_read_names an_Reader_read_names : Option Addr} {sl_Reader_read_names : Array (Option Value)} {oc_Reader_read_names kV_Reader_read_names dc_Reader_read_names pm_Reader_read_names cd_Reader_read_names ct_Reader_read_names : Value}
    {f_Reader_read_names_in_brackets : Addr} {od_Reader_read_names_in_brackets an_Reader_read_names_in_brackets : Option Addr} {sl_Reader_read_names_in_brackets : Array (Option Value)} {oc_Reader_read_names_in_brackets kV_Reader_read_names_in_brackets dc_Reader_read_names_in_brackets pm_Reader_read_names_in_brackets cd_Reader_read_names_in_brackets ct_Reader_read_names_in_brackets : Value}
    {f_Reader_read_score : Addr} {od_Reader_read_score an_Reader_read_score : Option Addr} {sl_Reader_read_score : Array (Option Value)} {oc_Reader_read_score kV_Reader_read_score dc_Reader_read_score pm_Reader_read_score cd_Reader_read_score ct_Reader_read_score : Value}
    {f_Reader_read_part : Addr} {od_Reader_read_part an_Reader_read_part : Option Addr} {sl_Reader_read_part : Array (Option Value)} {oc_Reader_read_part kV_Reader_read_part dc_Reader_read_part pm_Reader_read_part cd_Reader_read_part ct_Reader_read_part : Value}
    {f_Reader_read_block : Addr} {od_Reader_read_block an_Reader_read_block : Option Addr} {sl_Reader_read_block : Array (Option Value)} {oc_Reader_read_block kV_Reader_read_block dc_Reader_read_block pm_Reader_read_block cd_Reader_read_block ct_Reader_read_block : Value}
    {f_Reader_read_statement : Addr} {od_Reader_read_statement an_Reader_read_statement : Option Addr} {sl_Reader_read_statement : Array (Option Value)} {oc_Reader_read_statement kV_Reader_read_statement dc_Reader_read_statement pm_Reader_read_statement cd_Reader_read_statement ct_Reader_read_statement : Value}
    {f_Reader_read_message : Addr} {od_Reader_read_message an_Reader_read_message : Option Addr} {sl_Reader_read_message : Array (Option Value)} {oc_Reader_read_message kV_Reader_read_message dc_Reader_read_message pm_Reader_read_message cd_Reader_read_message ct_Reader_read_message : Value}
    {f_Reader_read_decision : Addr} {od_Reader_read_decision an_Reader_read_decision : Option Addr} {sl_Reader_read_decision : Array (Option Value)} {oc_Reader_read_decision kV_Reader_read_decision dc_Reader_read_decision pm_Reader_read_decision cd_Reader_read_decision ct_Reader_read_decision : Value}
    {f_Reader_read_if : Addr} {od_Reader_read_if an_Reader_read_if : Option Addr} {sl_Reader_read_if : Array (Option Value)} {oc_Reader_read_if kV_Reader_read_if dc_Reader_read_if pm_Reader_read_if cd_Reader_read_if ct_Reader_read_if : Value}
    {f_Reader_read_while : Addr} {od_Reader_read_while an_Reader_read_while : Option Addr} {sl_Reader_read_while : Array (Option Value)} {oc_Reader_read_while kV_Reader_read_while dc_Reader_read_while pm_Reader_read_while cd_Reader_read_while ct_Reader_read_while : Value}
    {f_Reader_read_value : Addr} {od_Reader_read_value an_Reader_read_value : Option Addr} {sl_Reader_read_value : Array (Option Value)} {oc_Reader_read_value kV_Reader_read_value dc_Reader_read_value pm_Reader_read_value cd_Reader_read_value ct_Reader_read_value : Value}
    {f_Reader_read_sum : Addr} {od_Reader_read_sum an_Reader_read_sum : Option Addr} {sl_Reader_read_sum : Array (Option Value)} {oc_Reader_read_sum kV_Reader_read_sum dc_Reader_read_sum pm_Reader_read_sum cd_Reader_read_sum ct_Reader_read_sum : Value}
    {f_Reader_read_product : Addr} {od_Reader_read_product an_Reader_read_product : Option Addr} {sl_Reader_read_product : Array (Option Value)} {oc_Reader_read_product kV_Reader_read_product dc_Reader_read_product pm_Reader_read_product cd_Reader_read_product ct_Reader_read_product : Value}
    {f_Reader_read_simple : Addr} {od_Reader_read_simple an_Reader_read_simple : Option Addr} {sl_Reader_read_simple : Array (Option Value)} {oc_Reader_read_simple kV_Reader_read_simple dc_Reader_read_simple pm_Reader_read_simple cd_Reader_read_simple ct_Reader_read_simple : Value}
    {f_read_tree : Addr} {od_read_tree an_read_tree : Option Addr} {sl_read_tree : Array (Option Value)} {oc_read_tree kV_read_tree dc_read_tree pm_read_tree cd_read_tree ct_read_tree : Value}
    {f_needs_brackets : Addr} {od_needs_brackets an_needs_brackets : Option Addr} {sl_needs_brackets : Array (Option Value)} {oc_needs_brackets kV_needs_brackets dc_needs_brackets pm_needs_brackets cd_needs_brackets ct_needs_brackets : Value}
    {f_value_pieces : Addr} {od_value_pieces an_value_pieces : Option Addr} {sl_value_pieces : Array (Option Value)} {oc_value_pieces kV_value_pieces dc_value_pieces pm_value_pieces cd_value_pieces ct_value_pieces : Value}
    {f_print_value : Addr} {od_print_value an_print_value : Option Addr} {sl_print_value : Array (Option Value)} {oc_print_value kV_print_value dc_print_value pm_print_value cd_print_value ct_print_value : Value}
    {f_with_commas : Addr} {od_with_commas an_with_commas : Option Addr} {sl_with_commas : Array (Option Value)} {oc_with_commas kV_with_commas dc_with_commas pm_with_commas cd_with_commas ct_with_commas : Value}
    {f_statement_pieces : Addr} {od_statement_pieces an_statement_pieces : Option Addr} {sl_statement_pieces : Array (Option Value)} {oc_statement_pieces kV_statement_pieces dc_statement_pieces pm_statement_pieces cd_statement_pieces ct_statement_pieces : Value}
    {f_block_pieces : Addr} {od_block_pieces an_block_pieces : Option Addr} {sl_block_pieces : Array (Option Value)} {oc_block_pieces kV_block_pieces dc_block_pieces pm_block_pieces cd_block_pieces ct_block_pieces : Value}
    {f_tree_pieces : Addr} {od_tree_pieces an_tree_pieces : Option Addr} {sl_tree_pieces : Array (Option Value)} {oc_tree_pieces kV_tree_pieces dc_tree_pieces pm_tree_pieces cd_tree_pieces ct_tree_pieces : Value}
    {f_is_part_of_word : Addr} {od_is_part_of_word an_is_part_of_word : Option Addr} {sl_is_part_of_word : Array (Option Value)} {oc_is_part_of_word kV_is_part_of_word dc_is_part_of_word pm_is_part_of_word cd_is_part_of_word ct_is_part_of_word : Value}
    {f_print_tree : Addr} {od_print_tree an_print_tree : Option Addr} {sl_print_tree : Array (Option Value)} {oc_print_tree kV_print_tree dc_print_tree pm_print_tree cd_print_tree ct_print_tree : Value}
    {f__law_tape : Addr} {od__law_tape an__law_tape : Option Addr} {sl__law_tape : Array (Option Value)} {oc__law_tape kV__law_tape dc__law_tape pm__law_tape cd__law_tape ct__law_tape : Value}
    {f__law_take : Addr} {od__law_take an__law_take : Option Addr} {sl__law_take : Array (Option Value)} {oc__law_take kV__law_take dc__law_take pm__law_take cd__law_take ct__law_take : Value}
    {f__law_is_integer : Addr} {od__law_is_integer an__law_is_integer : Option Addr} {sl__law_is_integer : Array (Option Value)} {oc__law_is_integer kV__law_is_integer dc__law_is_integer pm__law_is_integer cd__law_is_integer ct__law_is_integer : Value}
    {f__law_same_items : Addr} {od__law_same_items an__law_same_items : Option Addr} {sl__law_same_items : Array (Option Value)} {oc__law_same_items kV__law_same_items dc__law_same_items pm__law_same_items cd__law_same_items ct__law_same_items : Value}
    {f__law_same : Addr} {od__law_same an__law_same : Option Addr} {sl__law_same : Array (Option Value)} {oc__law_same kV__law_same dc__law_same pm__law_same cd__law_same ct__law_same : Value}
    {f__law_number : Addr} {od__law_number an__law_number : Option Addr} {sl__law_number : Array (Option Value)} {oc__law_number kV__law_number dc__law_number pm__law_number cd__law_number ct__law_number : Value}
    {f__law_value : Addr} {od__law_value an__law_value : Option Addr} {sl__law_value : Array (Option Value)} {oc__law_value kV__law_value dc__law_value pm__law_value cd__law_value ct__law_value : Value}
    {f__law_two : Addr} {od__law_two an__law_two : Option Addr} {sl__law_two : Array (Option Value)} {oc__law_two kV__law_two dc__law_two pm__law_two cd__law_two ct__law_two : Value}
    {f__law_statement : Addr} {od__law_statement an__law_statement : Option Addr} {sl__law_statement : Array (Option Value)} {oc__law_statement kV__law_statement dc__law_statement pm__law_statement cd__law_statement ct__law_statement : Value}
    {f__law_block : Addr} {od__law_block an__law_block : Option Addr} {sl__law_block : Array (Option Value)} {oc__law_block kV__law_block dc__law_block pm__law_block cd__law_block ct__law_block : Value}
    {f__law_tree : Addr} {od__law_tree an__law_tree : Option Addr} {sl__law_tree : Array (Option Value)} {oc__law_tree kV__law_tree dc__law_tree pm__law_tree cd__law_tree ct__law_tree : Value}
    {f__law_put : Addr} {od__law_put an__law_put : Option Addr} {sl__law_put : Array (Option Value)} {oc__law_put kV__law_put dc__law_put pm__law_put cd__law_put ct__law_put : Value}
    {f__law_put_value : Addr} {od__law_put_value an__law_put_value : Option Addr} {sl__law_put_value : Array (Option Value)} {oc__law_put_value kV__law_put_value dc__law_put_value pm__law_put_value cd__law_put_value ct__law_put_value : Value}
    {f__law_put_all : Addr} {od__law_put_all an__law_put_all : Option Addr} {sl__law_put_all : Array (Option Value)} {oc__law_put_all kV__law_put_all dc__law_put_all pm__law_put_all cd__law_put_all ct__law_put_all : Value}
    {f__law_put_names : Addr} {od__law_put_names an__law_put_names : Option Addr} {sl__law_put_names : Array (Option Value)} {oc__law_put_names kV__law_put_names dc__law_put_names pm__law_put_names cd__law_put_names ct__law_put_names : Value}
    {f__law_put_block : Addr} {od__law_put_block an__law_put_block : Option Addr} {sl__law_put_block : Array (Option Value)} {oc__law_put_block kV__law_put_block dc__law_put_block pm__law_put_block cd__law_put_block ct__law_put_block : Value}
    {f__law_put_tree : Addr} {od__law_put_tree an__law_put_tree : Option Addr} {sl__law_put_tree : Array (Option Value)} {oc__law_put_tree kV__law_put_tree dc__law_put_tree pm__law_put_tree cd__law_put_tree ct__law_put_tree : Value}
    {f__law_told : Addr} {od__law_told an__law_told : Option Addr} {sl__law_told : Array (Option Value)} {oc__law_told kV__law_told dc__law_told pm__law_told cd__law_told ct__law_told : Value}
    {f_law : Addr} {od_law an_law : Option Addr} {sl_law : Array (Option Value)} {oc_law kV_law dc_law pm_law cd_law ct_law : Value}
    {t_LETTERS : Tok}
    {t_DIGITS : Tok}
    {t_LETTERS_OF_NAMES : Tok}
    {t_SIGNS : Tok}
    {t_MODULUS : Tok}
    {t_MOST_BLOCKS : Tok}
    {t_MOST_BRACKETS : Tok}
    {p_WORDS : Addr} {o_WORDS : Obj}
    {p_LONG_SIGNS : Addr} {o_LONG_SIGNS : Obj}
    {p_COMPARISONS : Addr} {o_COMPARISONS : Obj}
    {p_SUMS : Addr} {o_SUMS : Obj}
    {nmS qS : Str} {NS : Addr} {bsS : List Value} {snS : List Str} {subS : List Value} {abS : Bool} {colS : Option Bool} {ddS : Option Addr} {mS0 mS1 mS2 mS3 mS5 : Option Value} {SE : Addr}
    {fS cdaS ccS : Addr} {odS anS cddS cldS : Option Addr} {oslS ccsS cslS : Array (Option Value)} {ocS kVS dcS pmS ctS cclS clS : Value} {vs2S : Array Value} {fileS : Str} {tfS : Tok} {cdS : ClassData}
    (aC_Reader : PySem.W.nsIn K mainGlobals "Reader" = some (some (.ref C_Reader)))
    (aC_SyntaxProblem : PySem.W.nsIn K mainGlobals "SyntaxProblem" = some (some (.ref C_SyntaxProblem)))
    (aC_ScoreError : PySem.W.nsIn K mainGlobals "ScoreError" = some (some (.ref C_ScoreError)))
    (a_run_end : PySem.W.nsIn K mainGlobals "run_end" = some (some (.ref f_run_end)))
    (l_run_end : K.lookup f_run_end = some ⟨oc_run_end, od_run_end, .func (PySem.W.fnOf "run_end" "run_end" (defArgs s_run_end) (defBody s_run_end) (defScope s_run_end) .none kV_run_end dc_run_end pm_run_end an_run_end cd_run_end ct_run_end), sl_run_end⟩) (c_run_end : PySem.W.codeIn K cd_run_end "run_end" = true) (k_run_end : PySem.W.keepIn K (.ref f_run_end) = true)
    (a_line_end : PySem.W.nsIn K mainGlobals "line_end" = some (some (.ref f_line_end)))
    (l_line_end : K.lookup f_line_end = some ⟨oc_line_end, od_line_end, .func (PySem.W.fnOf "line_end" "line_end" (defArgs s_line_end) (defBody s_line_end) (defScope s_line_end) .none kV_line_end dc_line_end pm_line_end an_line_end cd_line_end ct_line_end), sl_line_end⟩) (c_line_end : PySem.W.codeIn K cd_line_end "line_end" = true) (k_line_end : PySem.W.keepIn K (.ref f_line_end) = true)
    (a_token_at : PySem.W.nsIn K mainGlobals "token_at" = some (some (.ref f_token_at)))
    (l_token_at : K.lookup f_token_at = some ⟨oc_token_at, od_token_at, .func (PySem.W.fnOf "token_at" "token_at" (defArgs s_token_at) (defBody s_token_at) (defScope s_token_at) .none kV_token_at dc_token_at pm_token_at an_token_at cd_token_at ct_token_at), sl_token_at⟩) (c_token_at : PySem.W.codeIn K cd_token_at "token_at" = true) (k_token_at : PySem.W.keepIn K (.ref f_token_at) = true)
    (a_tokens : PySem.W.nsIn K mainGlobals "tokens" = some (some (.ref f_tokens)))
    (l_tokens : K.lookup f_tokens = some ⟨oc_tokens, od_tokens, .func (PySem.W.fnOf "tokens" "tokens" (defArgs s_tokens) (defBody s_tokens) (defScope s_tokens) .none kV_tokens dc_tokens pm_tokens an_tokens cd_tokens ct_tokens), sl_tokens⟩) (c_tokens : PySem.W.codeIn K cd_tokens "tokens" = true) (k_tokens : PySem.W.keepIn K (.ref f_tokens) = true)
    (a_number_value : PySem.W.nsIn K mainGlobals "number_value" = some (some (.ref f_number_value)))
    (l_number_value : K.lookup f_number_value = some ⟨oc_number_value, od_number_value, .func (PySem.W.fnOf "number_value" "number_value" (defArgs s_number_value) (defBody s_number_value) (defScope s_number_value) .none kV_number_value dc_number_value pm_number_value an_number_value cd_number_value ct_number_value), sl_number_value⟩) (c_number_value : PySem.W.codeIn K cd_number_value "number_value" = true) (k_number_value : PySem.W.keepIn K (.ref f_number_value) = true)
    (a_Reader___init__ : PySem.W.findIn K (.ref C_Reader) "__init__" = some (some (.ref f_Reader___init__))) (i_Reader___init__ : PySem.W.isFn K (.ref f_Reader___init__) = true)
    (l_Reader___init__ : K.lookup f_Reader___init__ = some ⟨oc_Reader___init__, od_Reader___init__, .func (PySem.W.fnOf "__init__" "Reader.__init__" (defArgs s_Reader___init__) (defBody s_Reader___init__) (defScope s_Reader___init__) .none kV_Reader___init__ dc_Reader___init__ pm_Reader___init__ an_Reader___init__ cd_Reader___init__ ct_Reader___init__), sl_Reader___init__⟩) (c_Reader___init__ : PySem.W.codeIn K cd_Reader___init__ "Reader.__init__" = true) (k_Reader___init__ : PySem.W.keepIn K (.ref f_Reader___init__) = true)
    (a_Reader_has_more : PySem.W.findIn K (.ref C_Reader) "has_more" = some (some (.ref f_Reader_has_more))) (i_Reader_has_more : PySem.W.isFn K (.ref f_Reader_has_more) = true)
    (l_Reader_has_more : K.lookup f_Reader_has_more = some ⟨oc_Reader_has_more, od_Reader_has_more, .func (PySem.W.fnOf "has_more" "Reader.has_more" (defArgs s_Reader_has_more) (defBody s_Reader_has_more) (defScope s_Reader_has_more) .none kV_Reader_has_more dc_Reader_has_more pm_Reader_has_more an_Reader_has_more cd_Reader_has_more ct_Reader_has_more), sl_Reader_has_more⟩) (c_Reader_has_more : PySem.W.codeIn K cd_Reader_has_more "Reader.has_more" = true) (k_Reader_has_more : PySem.W.keepIn K (.ref f_Reader_has_more) = true)
    (a_Reader_next_word : PySem.W.findIn K (.ref C_Reader) "next_word" = some (some (.ref f_Reader_next_word))) (i_Reader_next_word : PySem.W.isFn K (.ref f_Reader_next_word) = true)
    (l_Reader_next_word : K.lookup f_Reader_next_word = some ⟨oc_Reader_next_word, od_Reader_next_word, .func (PySem.W.fnOf "next_word" "Reader.next_word" (defArgs s_Reader_next_word) (defBody s_Reader_next_word) (defScope s_Reader_next_word) .none kV_Reader_next_word dc_Reader_next_word pm_Reader_next_word an_Reader_next_word cd_Reader_next_word ct_Reader_next_word), sl_Reader_next_word⟩) (c_Reader_next_word : PySem.W.codeIn K cd_Reader_next_word "Reader.next_word" = true) (k_Reader_next_word : PySem.W.keepIn K (.ref f_Reader_next_word) = true)
    (a_Reader_next_sort : PySem.W.findIn K (.ref C_Reader) "next_sort" = some (some (.ref f_Reader_next_sort))) (i_Reader_next_sort : PySem.W.isFn K (.ref f_Reader_next_sort) = true)
    (l_Reader_next_sort : K.lookup f_Reader_next_sort = some ⟨oc_Reader_next_sort, od_Reader_next_sort, .func (PySem.W.fnOf "next_sort" "Reader.next_sort" (defArgs s_Reader_next_sort) (defBody s_Reader_next_sort) (defScope s_Reader_next_sort) .none kV_Reader_next_sort dc_Reader_next_sort pm_Reader_next_sort an_Reader_next_sort cd_Reader_next_sort ct_Reader_next_sort), sl_Reader_next_sort⟩) (c_Reader_next_sort : PySem.W.codeIn K cd_Reader_next_sort "Reader.next_sort" = true) (k_Reader_next_sort : PySem.W.keepIn K (.ref f_Reader_next_sort) = true)
    (a_Reader_fail : PySem.W.findIn K (.ref C_Reader) "fail" = some (some (.ref f_Reader_fail))) (i_Reader_fail : PySem.W.isFn K (.ref f_Reader_fail) = true)
    (l_Reader_fail : K.lookup f_Reader_fail = some ⟨oc_Reader_fail, od_Reader_fail, .func (PySem.W.fnOf "fail" "Reader.fail" (defArgs s_Reader_fail) (defBody s_Reader_fail) (defScope s_Reader_fail) .none kV_Reader_fail dc_Reader_fail pm_Reader_fail an_Reader_fail cd_Reader_fail ct_Reader_fail), sl_Reader_fail⟩) (c_Reader_fail : PySem.W.codeIn K cd_Reader_fail "Reader.fail" = true) (k_Reader_fail : PySem.W.keepIn K (.ref f_Reader_fail) = true)
    (a_Reader_take : PySem.W.findIn K (.ref C_Reader) "take" = some (some (.ref f_Reader_take))) (i_Reader_take : PySem.W.isFn K (.ref f_Reader_take) = true)
    (l_Reader_take : K.lookup f_Reader_take = some ⟨oc_Reader_take, od_Reader_take, .func (PySem.W.fnOf "take" "Reader.take" (defArgs s_Reader_take) (defBody s_Reader_take) (defScope s_Reader_take) .none kV_Reader_take dc_Reader_take pm_Reader_take an_Reader_take cd_Reader_take ct_Reader_take), sl_Reader_take⟩) (c_Reader_take : PySem.W.codeIn K cd_Reader_take "Reader.take" = true) (k_Reader_take : PySem.W.keepIn K (.ref f_Reader_take) = true)
    (a_Reader_take_sort : PySem.W.findIn K (.ref C_Reader) "take_sort" = some (some (.ref f_Reader_take_sort))) (i_Reader_take_sort : PySem.W.isFn K (.ref f_Reader_take_sort) = true)
    (l_Reader_take_sort : K.lookup f_Reader_take_sort = some ⟨oc_Reader_take_sort, od_Reader_take_sort, .func (PySem.W.fnOf "take_sort" "Reader.take_sort" (defArgs s_Reader_take_sort) (defBody s_Reader_take_sort) (defScope s_Reader_take_sort) .none kV_Reader_take_sort dc_Reader_take_sort pm_Reader_take_sort an_Reader_take_sort cd_Reader_take_sort ct_Reader_take_sort), sl_Reader_take_sort⟩) (c_Reader_take_sort : PySem.W.codeIn K cd_Reader_take_sort "Reader.take_sort" = true) (k_Reader_take_sort : PySem.W.keepIn K (.ref f_Reader_take_sort) = true)
    (a_Reader_read_name : PySem.W.findIn K (.ref C_Reader) "read_name" = some (some (.ref f_Reader_read_name))) (i_Reader_read_name : PySem.W.isFn K (.ref f_Reader_read_name) = true)
    (l_Reader_read_name : K.lookup f_Reader_read_name = some ⟨oc_Reader_read_name, od_Reader_read_name, .func (PySem.W.fnOf "read_name" "Reader.read_name" (defArgs s_Reader_read_name) (defBody s_Reader_read_name) (defScope s_Reader_read_name) .none kV_Reader_read_name dc_Reader_read_name pm_Reader_read_name an_Reader_read_name cd_Reader_read_name ct_Reader_read_name), sl_Reader_read_name⟩) (c_Reader_read_name : PySem.W.codeIn K cd_Reader_read_name "Reader.read_name" = true) (k_Reader_read_name : PySem.W.keepIn K (.ref f_Reader_read_name) = true)
    (a_Reader_read_names : PySem.W.findIn K (.ref C_Reader) "read_names" = some (some (.ref f_Reader_read_names))) (i_Reader_read_names : PySem.W.isFn K (.ref f_Reader_read_names) = true)
    (l_Reader_read_names : K.lookup f_Reader_read_names = some ⟨oc_Reader_read_names, od_Reader_read_names, .func (PySem.W.fnOf "read_names" "Reader.read_names" (defArgs s_Reader_read_names) (defBody s_Reader_read_names) (defScope s_Reader_read_names) .none kV_Reader_read_names dc_Reader_read_names pm_Reader_read_names an_Reader_read_names cd_Reader_read_names ct_Reader_read_names), sl_Reader_read_names⟩) (c_Reader_read_names : PySem.W.codeIn K cd_Reader_read_names "Reader.read_names" = true) (k_Reader_read_names : PySem.W.keepIn K (.ref f_Reader_read_names) = true)
    (a_Reader_read_names_in_brackets : PySem.W.findIn K (.ref C_Reader) "read_names_in_brackets" = some (some (.ref f_Reader_read_names_in_brackets))) (i_Reader_read_names_in_brackets : PySem.W.isFn K (.ref f_Reader_read_names_in_brackets) = true)
    (l_Reader_read_names_in_brackets : K.lookup f_Reader_read_names_in_brackets = some ⟨oc_Reader_read_names_in_brackets, od_Reader_read_names_in_brackets, .func (PySem.W.fnOf "read_names_in_brackets" "Reader.read_names_in_brackets" (defArgs s_Reader_read_names_in_brackets) (defBody s_Reader_read_names_in_brackets) (defScope s_Reader_read_names_in_brackets) .none kV_Reader_read_names_in_brackets dc_Reader_read_names_in_brackets pm_Reader_read_names_in_brackets an_Reader_read_names_in_brackets cd_Reader_read_names_in_brackets ct_Reader_read_names_in_brackets), sl_Reader_read_names_in_brackets⟩) (c_Reader_read_names_in_brackets : PySem.W.codeIn K cd_Reader_read_names_in_brackets "Reader.read_names_in_brackets" = true) (k_Reader_read_names_in_brackets : PySem.W.keepIn K (.ref f_Reader_read_names_in_brackets) = true)
    (a_Reader_read_score : PySem.W.findIn K (.ref C_Reader) "read_score" = some (some (.ref f_Reader_read_score))) (i_Reader_read_score : PySem.W.isFn K (.ref f_Reader_read_score) = true)
    (l_Reader_read_score : K.lookup f_Reader_read_score = some ⟨oc_Reader_read_score, od_Reader_read_score, .func (PySem.W.fnOf "read_score" "Reader.read_score" (defArgs s_Reader_read_score) (defBody s_Reader_read_score) (defScope s_Reader_read_score) .none kV_Reader_read_score dc_Reader_read_score pm_Reader_read_score an_Reader_read_score cd_Reader_read_score ct_Reader_read_score), sl_Reader_read_score⟩) (c_Reader_read_score : PySem.W.codeIn K cd_Reader_read_score "Reader.read_score" = true) (k_Reader_read_score : PySem.W.keepIn K (.ref f_Reader_read_score) = true)
    (a_Reader_read_part : PySem.W.findIn K (.ref C_Reader) "read_part" = some (some (.ref f_Reader_read_part))) (i_Reader_read_part : PySem.W.isFn K (.ref f_Reader_read_part) = true)
    (l_Reader_read_part : K.lookup f_Reader_read_part = some ⟨oc_Reader_read_part, od_Reader_read_part, .func (PySem.W.fnOf "read_part" "Reader.read_part" (defArgs s_Reader_read_part) (defBody s_Reader_read_part) (defScope s_Reader_read_part) .none kV_Reader_read_part dc_Reader_read_part pm_Reader_read_part an_Reader_read_part cd_Reader_read_part ct_Reader_read_part), sl_Reader_read_part⟩) (c_Reader_read_part : PySem.W.codeIn K cd_Reader_read_part "Reader.read_part" = true) (k_Reader_read_part : PySem.W.keepIn K (.ref f_Reader_read_part) = true)
    (a_Reader_read_block : PySem.W.findIn K (.ref C_Reader) "read_block" = some (some (.ref f_Reader_read_block))) (i_Reader_read_block : PySem.W.isFn K (.ref f_Reader_read_block) = true)
    (l_Reader_read_block : K.lookup f_Reader_read_block = some ⟨oc_Reader_read_block, od_Reader_read_block, .func (PySem.W.fnOf "read_block" "Reader.read_block" (defArgs s_Reader_read_block) (defBody s_Reader_read_block) (defScope s_Reader_read_block) .none kV_Reader_read_block dc_Reader_read_block pm_Reader_read_block an_Reader_read_block cd_Reader_read_block ct_Reader_read_block), sl_Reader_read_block⟩) (c_Reader_read_block : PySem.W.codeIn K cd_Reader_read_block "Reader.read_block" = true) (k_Reader_read_block : PySem.W.keepIn K (.ref f_Reader_read_block) = true)
    (a_Reader_read_statement : PySem.W.findIn K (.ref C_Reader) "read_statement" = some (some (.ref f_Reader_read_statement))) (i_Reader_read_statement : PySem.W.isFn K (.ref f_Reader_read_statement) = true)
    (l_Reader_read_statement : K.lookup f_Reader_read_statement = some ⟨oc_Reader_read_statement, od_Reader_read_statement, .func (PySem.W.fnOf "read_statement" "Reader.read_statement" (defArgs s_Reader_read_statement) (defBody s_Reader_read_statement) (defScope s_Reader_read_statement) .none kV_Reader_read_statement dc_Reader_read_statement pm_Reader_read_statement an_Reader_read_statement cd_Reader_read_statement ct_Reader_read_statement), sl_Reader_read_statement⟩) (c_Reader_read_statement : PySem.W.codeIn K cd_Reader_read_statement "Reader.read_statement" = true) (k_Reader_read_statement : PySem.W.keepIn K (.ref f_Reader_read_statement) = true)
    (a_Reader_read_message : PySem.W.findIn K (.ref C_Reader) "read_message" = some (some (.ref f_Reader_read_message))) (i_Reader_read_message : PySem.W.isFn K (.ref f_Reader_read_message) = true)
    (l_Reader_read_message : K.lookup f_Reader_read_message = some ⟨oc_Reader_read_message, od_Reader_read_message, .func (PySem.W.fnOf "read_message" "Reader.read_message" (defArgs s_Reader_read_message) (defBody s_Reader_read_message) (defScope s_Reader_read_message) .none kV_Reader_read_message dc_Reader_read_message pm_Reader_read_message an_Reader_read_message cd_Reader_read_message ct_Reader_read_message), sl_Reader_read_message⟩) (c_Reader_read_message : PySem.W.codeIn K cd_Reader_read_message "Reader.read_message" = true) (k_Reader_read_message : PySem.W.keepIn K (.ref f_Reader_read_message) = true)
    (a_Reader_read_decision : PySem.W.findIn K (.ref C_Reader) "read_decision" = some (some (.ref f_Reader_read_decision))) (i_Reader_read_decision : PySem.W.isFn K (.ref f_Reader_read_decision) = true)
    (l_Reader_read_decision : K.lookup f_Reader_read_decision = some ⟨oc_Reader_read_decision, od_Reader_read_decision, .func (PySem.W.fnOf "read_decision" "Reader.read_decision" (defArgs s_Reader_read_decision) (defBody s_Reader_read_decision) (defScope s_Reader_read_decision) .none kV_Reader_read_decision dc_Reader_read_decision pm_Reader_read_decision an_Reader_read_decision cd_Reader_read_decision ct_Reader_read_decision), sl_Reader_read_decision⟩) (c_Reader_read_decision : PySem.W.codeIn K cd_Reader_read_decision "Reader.read_decision" = true) (k_Reader_read_decision : PySem.W.keepIn K (.ref f_Reader_read_decision) = true)
    (a_Reader_read_if : PySem.W.findIn K (.ref C_Reader) "read_if" = some (some (.ref f_Reader_read_if))) (i_Reader_read_if : PySem.W.isFn K (.ref f_Reader_read_if) = true)
    (l_Reader_read_if : K.lookup f_Reader_read_if = some ⟨oc_Reader_read_if, od_Reader_read_if, .func (PySem.W.fnOf "read_if" "Reader.read_if" (defArgs s_Reader_read_if) (defBody s_Reader_read_if) (defScope s_Reader_read_if) .none kV_Reader_read_if dc_Reader_read_if pm_Reader_read_if an_Reader_read_if cd_Reader_read_if ct_Reader_read_if), sl_Reader_read_if⟩) (c_Reader_read_if : PySem.W.codeIn K cd_Reader_read_if "Reader.read_if" = true) (k_Reader_read_if : PySem.W.keepIn K (.ref f_Reader_read_if) = true)
    (a_Reader_read_while : PySem.W.findIn K (.ref C_Reader) "read_while" = some (some (.ref f_Reader_read_while))) (i_Reader_read_while : PySem.W.isFn K (.ref f_Reader_read_while) = true)
    (l_Reader_read_while : K.lookup f_Reader_read_while = some ⟨oc_Reader_read_while, od_Reader_read_while, .func (PySem.W.fnOf "read_while" "Reader.read_while" (defArgs s_Reader_read_while) (defBody s_Reader_read_while) (defScope s_Reader_read_while) .none kV_Reader_read_while dc_Reader_read_while pm_Reader_read_while an_Reader_read_while cd_Reader_read_while ct_Reader_read_while), sl_Reader_read_while⟩) (c_Reader_read_while : PySem.W.codeIn K cd_Reader_read_while "Reader.read_while" = true) (k_Reader_read_while : PySem.W.keepIn K (.ref f_Reader_read_while) = true)
    (a_Reader_read_value : PySem.W.findIn K (.ref C_Reader) "read_value" = some (some (.ref f_Reader_read_value))) (i_Reader_read_value : PySem.W.isFn K (.ref f_Reader_read_value) = true)
    (l_Reader_read_value : K.lookup f_Reader_read_value = some ⟨oc_Reader_read_value, od_Reader_read_value, .func (PySem.W.fnOf "read_value" "Reader.read_value" (defArgs s_Reader_read_value) (defBody s_Reader_read_value) (defScope s_Reader_read_value) .none kV_Reader_read_value dc_Reader_read_value pm_Reader_read_value an_Reader_read_value cd_Reader_read_value ct_Reader_read_value), sl_Reader_read_value⟩) (c_Reader_read_value : PySem.W.codeIn K cd_Reader_read_value "Reader.read_value" = true) (k_Reader_read_value : PySem.W.keepIn K (.ref f_Reader_read_value) = true)
    (a_Reader_read_sum : PySem.W.findIn K (.ref C_Reader) "read_sum" = some (some (.ref f_Reader_read_sum))) (i_Reader_read_sum : PySem.W.isFn K (.ref f_Reader_read_sum) = true)
    (l_Reader_read_sum : K.lookup f_Reader_read_sum = some ⟨oc_Reader_read_sum, od_Reader_read_sum, .func (PySem.W.fnOf "read_sum" "Reader.read_sum" (defArgs s_Reader_read_sum) (defBody s_Reader_read_sum) (defScope s_Reader_read_sum) .none kV_Reader_read_sum dc_Reader_read_sum pm_Reader_read_sum an_Reader_read_sum cd_Reader_read_sum ct_Reader_read_sum), sl_Reader_read_sum⟩) (c_Reader_read_sum : PySem.W.codeIn K cd_Reader_read_sum "Reader.read_sum" = true) (k_Reader_read_sum : PySem.W.keepIn K (.ref f_Reader_read_sum) = true)
    (a_Reader_read_product : PySem.W.findIn K (.ref C_Reader) "read_product" = some (some (.ref f_Reader_read_product))) (i_Reader_read_product : PySem.W.isFn K (.ref f_Reader_read_product) = true)
    (l_Reader_read_product : K.lookup f_Reader_read_product = some ⟨oc_Reader_read_product, od_Reader_read_product, .func (PySem.W.fnOf "read_product" "Reader.read_product" (defArgs s_Reader_read_product) (defBody s_Reader_read_product) (defScope s_Reader_read_product) .none kV_Reader_read_product dc_Reader_read_product pm_Reader_read_product an_Reader_read_product cd_Reader_read_product ct_Reader_read_product), sl_Reader_read_product⟩) (c_Reader_read_product : PySem.W.codeIn K cd_Reader_read_product "Reader.read_product" = true) (k_Reader_read_product : PySem.W.keepIn K (.ref f_Reader_read_product) = true)
    (a_Reader_read_simple : PySem.W.findIn K (.ref C_Reader) "read_simple" = some (some (.ref f_Reader_read_simple))) (i_Reader_read_simple : PySem.W.isFn K (.ref f_Reader_read_simple) = true)
    (l_Reader_read_simple : K.lookup f_Reader_read_simple = some ⟨oc_Reader_read_simple, od_Reader_read_simple, .func (PySem.W.fnOf "read_simple" "Reader.read_simple" (defArgs s_Reader_read_simple) (defBody s_Reader_read_simple) (defScope s_Reader_read_simple) .none kV_Reader_read_simple dc_Reader_read_simple pm_Reader_read_simple an_Reader_read_simple cd_Reader_read_simple ct_Reader_read_simple), sl_Reader_read_simple⟩) (c_Reader_read_simple : PySem.W.codeIn K cd_Reader_read_simple "Reader.read_simple" = true) (k_Reader_read_simple : PySem.W.keepIn K (.ref f_Reader_read_simple) = true)
    (a_read_tree : PySem.W.nsIn K mainGlobals "read_tree" = some (some (.ref f_read_tree)))
    (l_read_tree : K.lookup f_read_tree = some ⟨oc_read_tree, od_read_tree, .func (PySem.W.fnOf "read_tree" "read_tree" (defArgs s_read_tree) (defBody s_read_tree) (defScope s_read_tree) .none kV_read_tree dc_read_tree pm_read_tree an_read_tree cd_read_tree ct_read_tree), sl_read_tree⟩) (c_read_tree : PySem.W.codeIn K cd_read_tree "read_tree" = true) (k_read_tree : PySem.W.keepIn K (.ref f_read_tree) = true)
    (a_needs_brackets : PySem.W.nsIn K mainGlobals "needs_brackets" = some (some (.ref f_needs_brackets)))
    (l_needs_brackets : K.lookup f_needs_brackets = some ⟨oc_needs_brackets, od_needs_brackets, .func (PySem.W.fnOf "needs_brackets" "needs_brackets" (defArgs s_needs_brackets) (defBody s_needs_brackets) (defScope s_needs_brackets) .none kV_needs_brackets dc_needs_brackets pm_needs_brackets an_needs_brackets cd_needs_brackets ct_needs_brackets), sl_needs_brackets⟩) (c_needs_brackets : PySem.W.codeIn K cd_needs_brackets "needs_brackets" = true) (k_needs_brackets : PySem.W.keepIn K (.ref f_needs_brackets) = true)
    (a_value_pieces : PySem.W.nsIn K mainGlobals "value_pieces" = some (some (.ref f_value_pieces)))
    (l_value_pieces : K.lookup f_value_pieces = some ⟨oc_value_pieces, od_value_pieces, .func (PySem.W.fnOf "value_pieces" "value_pieces" (defArgs s_value_pieces) (defBody s_value_pieces) (defScope s_value_pieces) .none kV_value_pieces dc_value_pieces pm_value_pieces an_value_pieces cd_value_pieces ct_value_pieces), sl_value_pieces⟩) (c_value_pieces : PySem.W.codeIn K cd_value_pieces "value_pieces" = true) (k_value_pieces : PySem.W.keepIn K (.ref f_value_pieces) = true)
    (a_print_value : PySem.W.nsIn K mainGlobals "print_value" = some (some (.ref f_print_value)))
    (l_print_value : K.lookup f_print_value = some ⟨oc_print_value, od_print_value, .func (PySem.W.fnOf "print_value" "print_value" (defArgs s_print_value) (defBody s_print_value) (defScope s_print_value) .none kV_print_value dc_print_value pm_print_value an_print_value cd_print_value ct_print_value), sl_print_value⟩) (c_print_value : PySem.W.codeIn K cd_print_value "print_value" = true) (k_print_value : PySem.W.keepIn K (.ref f_print_value) = true)
    (a_with_commas : PySem.W.nsIn K mainGlobals "with_commas" = some (some (.ref f_with_commas)))
    (l_with_commas : K.lookup f_with_commas = some ⟨oc_with_commas, od_with_commas, .func (PySem.W.fnOf "with_commas" "with_commas" (defArgs s_with_commas) (defBody s_with_commas) (defScope s_with_commas) .none kV_with_commas dc_with_commas pm_with_commas an_with_commas cd_with_commas ct_with_commas), sl_with_commas⟩) (c_with_commas : PySem.W.codeIn K cd_with_commas "with_commas" = true) (k_with_commas : PySem.W.keepIn K (.ref f_with_commas) = true)
    (a_statement_pieces : PySem.W.nsIn K mainGlobals "statement_pieces" = some (some (.ref f_statement_pieces)))
    (l_statement_pieces : K.lookup f_statement_pieces = some ⟨oc_statement_pieces, od_statement_pieces, .func (PySem.W.fnOf "statement_pieces" "statement_pieces" (defArgs s_statement_pieces) (defBody s_statement_pieces) (defScope s_statement_pieces) .none kV_statement_pieces dc_statement_pieces pm_statement_pieces an_statement_pieces cd_statement_pieces ct_statement_pieces), sl_statement_pieces⟩) (c_statement_pieces : PySem.W.codeIn K cd_statement_pieces "statement_pieces" = true) (k_statement_pieces : PySem.W.keepIn K (.ref f_statement_pieces) = true)
    (a_block_pieces : PySem.W.nsIn K mainGlobals "block_pieces" = some (some (.ref f_block_pieces)))
    (l_block_pieces : K.lookup f_block_pieces = some ⟨oc_block_pieces, od_block_pieces, .func (PySem.W.fnOf "block_pieces" "block_pieces" (defArgs s_block_pieces) (defBody s_block_pieces) (defScope s_block_pieces) .none kV_block_pieces dc_block_pieces pm_block_pieces an_block_pieces cd_block_pieces ct_block_pieces), sl_block_pieces⟩) (c_block_pieces : PySem.W.codeIn K cd_block_pieces "block_pieces" = true) (k_block_pieces : PySem.W.keepIn K (.ref f_block_pieces) = true)
    (a_tree_pieces : PySem.W.nsIn K mainGlobals "tree_pieces" = some (some (.ref f_tree_pieces)))
    (l_tree_pieces : K.lookup f_tree_pieces = some ⟨oc_tree_pieces, od_tree_pieces, .func (PySem.W.fnOf "tree_pieces" "tree_pieces" (defArgs s_tree_pieces) (defBody s_tree_pieces) (defScope s_tree_pieces) .none kV_tree_pieces dc_tree_pieces pm_tree_pieces an_tree_pieces cd_tree_pieces ct_tree_pieces), sl_tree_pieces⟩) (c_tree_pieces : PySem.W.codeIn K cd_tree_pieces "tree_pieces" = true) (k_tree_pieces : PySem.W.keepIn K (.ref f_tree_pieces) = true)
    (a_is_part_of_word : PySem.W.nsIn K mainGlobals "is_part_of_word" = some (some (.ref f_is_part_of_word)))
    (l_is_part_of_word : K.lookup f_is_part_of_word = some ⟨oc_is_part_of_word, od_is_part_of_word, .func (PySem.W.fnOf "is_part_of_word" "is_part_of_word" (defArgs s_is_part_of_word) (defBody s_is_part_of_word) (defScope s_is_part_of_word) .none kV_is_part_of_word dc_is_part_of_word pm_is_part_of_word an_is_part_of_word cd_is_part_of_word ct_is_part_of_word), sl_is_part_of_word⟩) (c_is_part_of_word : PySem.W.codeIn K cd_is_part_of_word "is_part_of_word" = true) (k_is_part_of_word : PySem.W.keepIn K (.ref f_is_part_of_word) = true)
    (a_print_tree : PySem.W.nsIn K mainGlobals "print_tree" = some (some (.ref f_print_tree)))
    (l_print_tree : K.lookup f_print_tree = some ⟨oc_print_tree, od_print_tree, .func (PySem.W.fnOf "print_tree" "print_tree" (defArgs s_print_tree) (defBody s_print_tree) (defScope s_print_tree) .none kV_print_tree dc_print_tree pm_print_tree an_print_tree cd_print_tree ct_print_tree), sl_print_tree⟩) (c_print_tree : PySem.W.codeIn K cd_print_tree "print_tree" = true) (k_print_tree : PySem.W.keepIn K (.ref f_print_tree) = true)
    (a__law_tape : PySem.W.nsIn K mainGlobals "_law_tape" = some (some (.ref f__law_tape)))
    (l__law_tape : K.lookup f__law_tape = some ⟨oc__law_tape, od__law_tape, .func (PySem.W.fnOf "_law_tape" "_law_tape" (defArgs s__law_tape) (defBody s__law_tape) (defScope s__law_tape) .none kV__law_tape dc__law_tape pm__law_tape an__law_tape cd__law_tape ct__law_tape), sl__law_tape⟩) (c__law_tape : PySem.W.codeIn K cd__law_tape "_law_tape" = true) (k__law_tape : PySem.W.keepIn K (.ref f__law_tape) = true)
    (a__law_take : PySem.W.nsIn K mainGlobals "_law_take" = some (some (.ref f__law_take)))
    (l__law_take : K.lookup f__law_take = some ⟨oc__law_take, od__law_take, .func (PySem.W.fnOf "_law_take" "_law_take" (defArgs s__law_take) (defBody s__law_take) (defScope s__law_take) .none kV__law_take dc__law_take pm__law_take an__law_take cd__law_take ct__law_take), sl__law_take⟩) (c__law_take : PySem.W.codeIn K cd__law_take "_law_take" = true) (k__law_take : PySem.W.keepIn K (.ref f__law_take) = true)
    (a__law_is_integer : PySem.W.nsIn K mainGlobals "_law_is_integer" = some (some (.ref f__law_is_integer)))
    (l__law_is_integer : K.lookup f__law_is_integer = some ⟨oc__law_is_integer, od__law_is_integer, .func (PySem.W.fnOf "_law_is_integer" "_law_is_integer" (defArgs s__law_is_integer) (defBody s__law_is_integer) (defScope s__law_is_integer) .none kV__law_is_integer dc__law_is_integer pm__law_is_integer an__law_is_integer cd__law_is_integer ct__law_is_integer), sl__law_is_integer⟩) (c__law_is_integer : PySem.W.codeIn K cd__law_is_integer "_law_is_integer" = true) (k__law_is_integer : PySem.W.keepIn K (.ref f__law_is_integer) = true)
    (a__law_same_items : PySem.W.nsIn K mainGlobals "_law_same_items" = some (some (.ref f__law_same_items)))
    (l__law_same_items : K.lookup f__law_same_items = some ⟨oc__law_same_items, od__law_same_items, .func (PySem.W.fnOf "_law_same_items" "_law_same_items" (defArgs s__law_same_items) (defBody s__law_same_items) (defScope s__law_same_items) .none kV__law_same_items dc__law_same_items pm__law_same_items an__law_same_items cd__law_same_items ct__law_same_items), sl__law_same_items⟩) (c__law_same_items : PySem.W.codeIn K cd__law_same_items "_law_same_items" = true) (k__law_same_items : PySem.W.keepIn K (.ref f__law_same_items) = true)
    (a__law_same : PySem.W.nsIn K mainGlobals "_law_same" = some (some (.ref f__law_same)))
    (l__law_same : K.lookup f__law_same = some ⟨oc__law_same, od__law_same, .func (PySem.W.fnOf "_law_same" "_law_same" (defArgs s__law_same) (defBody s__law_same) (defScope s__law_same) .none kV__law_same dc__law_same pm__law_same an__law_same cd__law_same ct__law_same), sl__law_same⟩) (c__law_same : PySem.W.codeIn K cd__law_same "_law_same" = true) (k__law_same : PySem.W.keepIn K (.ref f__law_same) = true)
    (a__law_number : PySem.W.nsIn K mainGlobals "_law_number" = some (some (.ref f__law_number)))
    (l__law_number : K.lookup f__law_number = some ⟨oc__law_number, od__law_number, .func (PySem.W.fnOf "_law_number" "_law_number" (defArgs s__law_number) (defBody s__law_number) (defScope s__law_number) .none kV__law_number dc__law_number pm__law_number an__law_number cd__law_number ct__law_number), sl__law_number⟩) (c__law_number : PySem.W.codeIn K cd__law_number "_law_number" = true) (k__law_number : PySem.W.keepIn K (.ref f__law_number) = true)
    (a__law_value : PySem.W.nsIn K mainGlobals "_law_value" = some (some (.ref f__law_value)))
    (l__law_value : K.lookup f__law_value = some ⟨oc__law_value, od__law_value, .func (PySem.W.fnOf "_law_value" "_law_value" (defArgs s__law_value) (defBody s__law_value) (defScope s__law_value) .none kV__law_value dc__law_value pm__law_value an__law_value cd__law_value ct__law_value), sl__law_value⟩) (c__law_value : PySem.W.codeIn K cd__law_value "_law_value" = true) (k__law_value : PySem.W.keepIn K (.ref f__law_value) = true)
    (a__law_two : PySem.W.nsIn K mainGlobals "_law_two" = some (some (.ref f__law_two)))
    (l__law_two : K.lookup f__law_two = some ⟨oc__law_two, od__law_two, .func (PySem.W.fnOf "_law_two" "_law_two" (defArgs s__law_two) (defBody s__law_two) (defScope s__law_two) .none kV__law_two dc__law_two pm__law_two an__law_two cd__law_two ct__law_two), sl__law_two⟩) (c__law_two : PySem.W.codeIn K cd__law_two "_law_two" = true) (k__law_two : PySem.W.keepIn K (.ref f__law_two) = true)
    (a__law_statement : PySem.W.nsIn K mainGlobals "_law_statement" = some (some (.ref f__law_statement)))
    (l__law_statement : K.lookup f__law_statement = some ⟨oc__law_statement, od__law_statement, .func (PySem.W.fnOf "_law_statement" "_law_statement" (defArgs s__law_statement) (defBody s__law_statement) (defScope s__law_statement) .none kV__law_statement dc__law_statement pm__law_statement an__law_statement cd__law_statement ct__law_statement), sl__law_statement⟩) (c__law_statement : PySem.W.codeIn K cd__law_statement "_law_statement" = true) (k__law_statement : PySem.W.keepIn K (.ref f__law_statement) = true)
    (a__law_block : PySem.W.nsIn K mainGlobals "_law_block" = some (some (.ref f__law_block)))
    (l__law_block : K.lookup f__law_block = some ⟨oc__law_block, od__law_block, .func (PySem.W.fnOf "_law_block" "_law_block" (defArgs s__law_block) (defBody s__law_block) (defScope s__law_block) .none kV__law_block dc__law_block pm__law_block an__law_block cd__law_block ct__law_block), sl__law_block⟩) (c__law_block : PySem.W.codeIn K cd__law_block "_law_block" = true) (k__law_block : PySem.W.keepIn K (.ref f__law_block) = true)
    (a__law_tree : PySem.W.nsIn K mainGlobals "_law_tree" = some (some (.ref f__law_tree)))
    (l__law_tree : K.lookup f__law_tree = some ⟨oc__law_tree, od__law_tree, .func (PySem.W.fnOf "_law_tree" "_law_tree" (defArgs s__law_tree) (defBody s__law_tree) (defScope s__law_tree) .none kV__law_tree dc__law_tree pm__law_tree an__law_tree cd__law_tree ct__law_tree), sl__law_tree⟩) (c__law_tree : PySem.W.codeIn K cd__law_tree "_law_tree" = true) (k__law_tree : PySem.W.keepIn K (.ref f__law_tree) = true)
    (a__law_put : PySem.W.nsIn K mainGlobals "_law_put" = some (some (.ref f__law_put)))
    (l__law_put : K.lookup f__law_put = some ⟨oc__law_put, od__law_put, .func (PySem.W.fnOf "_law_put" "_law_put" (defArgs s__law_put) (defBody s__law_put) (defScope s__law_put) .none kV__law_put dc__law_put pm__law_put an__law_put cd__law_put ct__law_put), sl__law_put⟩) (c__law_put : PySem.W.codeIn K cd__law_put "_law_put" = true) (k__law_put : PySem.W.keepIn K (.ref f__law_put) = true)
    (a__law_put_value : PySem.W.nsIn K mainGlobals "_law_put_value" = some (some (.ref f__law_put_value)))
    (l__law_put_value : K.lookup f__law_put_value = some ⟨oc__law_put_value, od__law_put_value, .func (PySem.W.fnOf "_law_put_value" "_law_put_value" (defArgs s__law_put_value) (defBody s__law_put_value) (defScope s__law_put_value) .none kV__law_put_value dc__law_put_value pm__law_put_value an__law_put_value cd__law_put_value ct__law_put_value), sl__law_put_value⟩) (c__law_put_value : PySem.W.codeIn K cd__law_put_value "_law_put_value" = true) (k__law_put_value : PySem.W.keepIn K (.ref f__law_put_value) = true)
    (a__law_put_all : PySem.W.nsIn K mainGlobals "_law_put_all" = some (some (.ref f__law_put_all)))
    (l__law_put_all : K.lookup f__law_put_all = some ⟨oc__law_put_all, od__law_put_all, .func (PySem.W.fnOf "_law_put_all" "_law_put_all" (defArgs s__law_put_all) (defBody s__law_put_all) (defScope s__law_put_all) .none kV__law_put_all dc__law_put_all pm__law_put_all an__law_put_all cd__law_put_all ct__law_put_all), sl__law_put_all⟩) (c__law_put_all : PySem.W.codeIn K cd__law_put_all "_law_put_all" = true) (k__law_put_all : PySem.W.keepIn K (.ref f__law_put_all) = true)
    (a__law_put_names : PySem.W.nsIn K mainGlobals "_law_put_names" = some (some (.ref f__law_put_names)))
    (l__law_put_names : K.lookup f__law_put_names = some ⟨oc__law_put_names, od__law_put_names, .func (PySem.W.fnOf "_law_put_names" "_law_put_names" (defArgs s__law_put_names) (defBody s__law_put_names) (defScope s__law_put_names) .none kV__law_put_names dc__law_put_names pm__law_put_names an__law_put_names cd__law_put_names ct__law_put_names), sl__law_put_names⟩) (c__law_put_names : PySem.W.codeIn K cd__law_put_names "_law_put_names" = true) (k__law_put_names : PySem.W.keepIn K (.ref f__law_put_names) = true)
    (a__law_put_block : PySem.W.nsIn K mainGlobals "_law_put_block" = some (some (.ref f__law_put_block)))
    (l__law_put_block : K.lookup f__law_put_block = some ⟨oc__law_put_block, od__law_put_block, .func (PySem.W.fnOf "_law_put_block" "_law_put_block" (defArgs s__law_put_block) (defBody s__law_put_block) (defScope s__law_put_block) .none kV__law_put_block dc__law_put_block pm__law_put_block an__law_put_block cd__law_put_block ct__law_put_block), sl__law_put_block⟩) (c__law_put_block : PySem.W.codeIn K cd__law_put_block "_law_put_block" = true) (k__law_put_block : PySem.W.keepIn K (.ref f__law_put_block) = true)
    (a__law_put_tree : PySem.W.nsIn K mainGlobals "_law_put_tree" = some (some (.ref f__law_put_tree)))
    (l__law_put_tree : K.lookup f__law_put_tree = some ⟨oc__law_put_tree, od__law_put_tree, .func (PySem.W.fnOf "_law_put_tree" "_law_put_tree" (defArgs s__law_put_tree) (defBody s__law_put_tree) (defScope s__law_put_tree) .none kV__law_put_tree dc__law_put_tree pm__law_put_tree an__law_put_tree cd__law_put_tree ct__law_put_tree), sl__law_put_tree⟩) (c__law_put_tree : PySem.W.codeIn K cd__law_put_tree "_law_put_tree" = true) (k__law_put_tree : PySem.W.keepIn K (.ref f__law_put_tree) = true)
    (a__law_told : PySem.W.nsIn K mainGlobals "_law_told" = some (some (.ref f__law_told)))
    (l__law_told : K.lookup f__law_told = some ⟨oc__law_told, od__law_told, .func (PySem.W.fnOf "_law_told" "_law_told" (defArgs s__law_told) (defBody s__law_told) (defScope s__law_told) .none kV__law_told dc__law_told pm__law_told an__law_told cd__law_told ct__law_told), sl__law_told⟩) (c__law_told : PySem.W.codeIn K cd__law_told "_law_told" = true) (k__law_told : PySem.W.keepIn K (.ref f__law_told) = true)
    (a_law : PySem.W.nsIn K mainGlobals "law" = some (some (.ref f_law)))
    (l_law : K.lookup f_law = some ⟨oc_law, od_law, .func (PySem.W.fnOf "law" "law" (defArgs s_law) (defBody s_law) (defScope s_law) .none kV_law dc_law pm_law an_law cd_law ct_law), sl_law⟩) (c_law : PySem.W.codeIn K cd_law "law" = true) (k_law : PySem.W.keepIn K (.ref f_law) = true)
    (x_LETTERS : PySem.W.nsIn K mainGlobals "LETTERS" = some (some (.str zLET t_LETTERS)))
    (x_DIGITS : PySem.W.nsIn K mainGlobals "DIGITS" = some (some (.str zDIG t_DIGITS)))
    (x_LETTERS_OF_NAMES : PySem.W.nsIn K mainGlobals "LETTERS_OF_NAMES" = some (some (.str zNAM t_LETTERS_OF_NAMES)))
    (x_SIGNS : PySem.W.nsIn K mainGlobals "SIGNS" = some (some (.str zSIG t_SIGNS)))
    (x_MODULUS : PySem.W.nsIn K mainGlobals "MODULUS" = some (some (.int 4294967296 t_MODULUS)))
    (x_MOST_BLOCKS : PySem.W.nsIn K mainGlobals "MOST_BLOCKS" = some (some (.int 12 t_MOST_BLOCKS)))
    (x_MOST_BRACKETS : PySem.W.nsIn K mainGlobals "MOST_BRACKETS" = some (some (.int 12 t_MOST_BRACKETS)))
    (x_WORDS : PySem.W.nsIn K mainGlobals "WORDS" = some (some (.ref p_WORDS))) (y_WORDS : K.lookup p_WORDS = some o_WORDS) (v_WORDS : TupObj o_WORDS wordsL)
    (x_LONG_SIGNS : PySem.W.nsIn K mainGlobals "LONG_SIGNS" = some (some (.ref p_LONG_SIGNS))) (y_LONG_SIGNS : K.lookup p_LONG_SIGNS = some o_LONG_SIGNS) (v_LONG_SIGNS : TupObj o_LONG_SIGNS longsL)
    (x_COMPARISONS : PySem.W.nsIn K mainGlobals "COMPARISONS" = some (some (.ref p_COMPARISONS))) (y_COMPARISONS : K.lookup p_COMPARISONS = some o_COMPARISONS) (v_COMPARISONS : TupObj o_COMPARISONS [("<" : Str), "=="])
    (x_SUMS : PySem.W.nsIn K mainGlobals "SUMS" = some (some (.ref p_SUMS))) (y_SUMS : K.lookup p_SUMS = some o_SUMS) (v_SUMS : TupObj o_SUMS [("+" : Str), "-"])
    (z_len : PySem.W.nsIn K mainGlobals "len" = some none)
    (z_abs : PySem.W.nsIn K mainGlobals "abs" = some none)
    (z_int : PySem.W.nsIn K mainGlobals "int" = some none)
    (z_bool : PySem.W.nsIn K mainGlobals "bool" = some none)
    (z_str : PySem.W.nsIn K mainGlobals "str" = some none)
    (z_list : PySem.W.nsIn K mainGlobals "list" = some none)
    (z_tuple : PySem.W.nsIn K mainGlobals "tuple" = some none)
    (z_dict : PySem.W.nsIn K mainGlobals "dict" = some none)
    (z_isinstance : PySem.W.nsIn K mainGlobals "isinstance" = some none)
    (z_range : PySem.W.nsIn K mainGlobals "range" = some none)
    (z_super : PySem.W.nsIn K mainGlobals "super" = some none)
    (pg : PySem.W.plainGet K C_Reader Str.empty = true)
    (hd : PySem.W.hasDictIn K C_Reader = true)
    (po : PySem.W.plainOver K C_Reader = true)
    (sa : PySem.W.findIn K (.ref C_Reader) "__setattr__" = some (some (.builtin "object.__setattr__")))
    (mk : PySem.W.makesIn K C_Reader = true)
    (kc : PySem.W.keepIn K (.ref C_Reader) = true)
    (nT : PySem.W.findIn K (.ref C_Reader) "text" = some none)
    (nK : PySem.W.findIn K (.ref C_Reader) "tokens" = some none)
    (nA : PySem.W.findIn K (.ref C_Reader) "at" = some none)
    (xS : K.lookup C_SyntaxProblem = some (excClassObj nmS qS C_SyntaxProblem NS bsS [.ref SE, .type "ValueError", .type "Exception", .type "BaseException", .type "object"] true snS subS abS colS ddS mS0 mS1 mS2 mS3 mS5 "ValueError.__new__"))
    (saS : PySem.W.findIn K (.ref C_SyntaxProblem) "__setattr__" = some (some (.builtin "object.__setattr__")))
    (gaS : PySem.W.findIn K (.ref C_SyntaxProblem) "__getattribute__" = some (some (.builtin "BaseException.__getattribute__")))
    (ggS : PySem.W.findIn K (.ref C_SyntaxProblem) "__getattr__" = some none)
    (noS : PySem.W.findIn K (.ref C_SyntaxProblem) "start" = some none)
    (eS : PySem.W.subIn K (.ref C_SyntaxProblem) (.type "BaseException") = some true)
    (tS : PySem.W.typeIn K (.ref C_SyntaxProblem) = some (.type "type"))
    (kS : PySem.W.keepIn K (.ref C_SyntaxProblem) = true)
    (hS : PySem.W.hasDictIn K C_SyntaxProblem = true)
    (iS : PySem.W.isClsIn K C_SyntaxProblem = true)
    (ssS : PySem.W.subIn K (.ref C_SyntaxProblem) (.ref C_SyntaxProblem) = some true)
    (inS : PySem.W.findIn K (.ref C_SyntaxProblem) "__init__" = some (some (.ref fS)))
    (tiS : PySem.W.typeIn K (.ref fS) = some (.type "function"))
    (lS : K.lookup fS = some ⟨ocS, odS, .func (PySem.W.ksFn "__init__" "SyntaxProblem.__init__" (defArgs s_SyntaxProblem___init__) (defBody s_SyntaxProblem___init__) (defScope s_SyntaxProblem___init__) .none kVS dcS pmS anS (.ref cdaS) ctS ccS), oslS⟩)
    (cS : PySem.W.codeIn K (.ref cdaS) "SyntaxProblem.__init__" = true)
    (coS : K.lookup cdaS = some ⟨cclS, cddS, .fields vs2S, ccsS⟩)
    (vS : vs2S[2]? = some (.str fileS tfS))
    (fiS : ((l.prog.main.file : Str) == fileS) = true)
    (topS : (l.prog.main.scope.names.lookup ("super" : Str)).isSome = false)
    (ceS : K.lookup ccS = some ⟨clS, cldS, .cell (some (.ref C_SyntaxProblem)), cslS⟩)
    (dS : PySem.W.clsIn K C_SyntaxProblem = some cdS)
    (moS : PySem.W.mroIn K C_SyntaxProblem (.ref C_SyntaxProblem) = some true)
    (anyS : PySem.W.nsIn K cStatics "thirdparty.any" = some none)
    (suS : PySem.W.ks_superIn K C_SyntaxProblem C_SyntaxProblem "__init__" = some (some (.builtin "ValueError.__init__")))
    (veS : PySem.W.subIn K (.ref C_SyntaxProblem) (.type "ValueError") = some true)
    (caS : PySem.W.findIn K (.ref C_SyntaxProblem) "__class__" = some (some (.builtin "object.__class__")))
    (spS : PySem.W.specialIn K (.builtin "object.__class__") "__get__" = some (some (.builtin "getset_descriptor.__get__")))
    (tkS : PySem.W.takesIn K (.builtin "object.__class__") = some true)
    (obS : PySem.W.mroIn K C_SyntaxProblem (.type "object") = some true)
    (isS : PySem.W.kitOne K (.ref C_SyntaxProblem) (.ref C_ScoreError) = some true) :
    ∃ fd : FuncData, (∀ (s : Shared) (v : Value), BindsTo s fd ⟨[v], []⟩ [("script", v)]) ∧ ∀ base : Heap, K.In base → base.Ns mainGlobals mg → FnOk l.prog w K mg base CX0 102 fa fd ["script"] (spLaw K) := by
  have e := hfa.symm.trans (PySem.W.mg_of X G a_law)
  cases e
  have F_run_end := fun_mk (st := s_run_end) l_run_end c_run_end k_run_end
  have b_run_end := F_run_end.binds (ps := ["text", "at", "letters"]) fun _ _ _ _ _ _ us hl => match us, hl with | [_, _, _], _ => rfl
  have m_run_end := PySem.W.mg_of X G a_run_end
  have F_line_end := fun_mk (st := s_line_end) l_line_end c_line_end k_line_end
  have b_line_end := F_line_end.binds (ps := ["text", "at"]) fun _ _ _ _ _ _ us hl => match us, hl with | [_, _], _ => rfl
  have m_line_end := PySem.W.mg_of X G a_line_end
  have F_token_at := fun_mk (st := s_token_at) l_token_at c_token_at k_token_at
  have b_token_at := F_token_at.binds (ps := ["text", "at"]) fun _ _ _ _ _ _ us hl => match us, hl with | [_, _], _ => rfl
  have m_token_at := PySem.W.mg_of X G a_token_at
  have F_tokens := fun_mk (st := s_tokens) l_tokens c_tokens k_tokens
  have b_tokens := F_tokens.binds (ps := ["text"]) fun _ _ _ _ _ _ us hl => match us, hl with | [_], _ => rfl
  have m_tokens := PySem.W.mg_of X G a_tokens
  have F_number_value := fun_mk (st := s_number_value) l_number_value c_number_value k_number_value
  have b_number_value := F_number_value.binds (ps := ["digits"]) fun _ _ _ _ _ _ us hl => match us, hl with | [_], _ => rfl
  have m_number_value := PySem.W.mg_of X G a_number_value
  have F_Reader___init__ := fun_mk (st := s_Reader___init__) l_Reader___init__ c_Reader___init__ k_Reader___init__
  have b_Reader___init__ := F_Reader___init__.binds (ps := ["self", "text"]) fun _ _ _ _ _ _ us hl => match us, hl with | [_, _], _ => rfl
  have m_Reader___init__ : Meth K C_Reader "__init__" f_Reader___init__ := ⟨a_Reader___init__, i_Reader___init__, k_Reader___init__⟩
  have F_Reader_has_more := fun_mk (st := s_Reader_has_more) l_Reader_has_more c_Reader_has_more k_Reader_has_more
  have b_Reader_has_more := F_Reader_has_more.binds (ps := ["self"]) fun _ _ _ _ _ _ us hl => match us, hl with | [_], _ => rfl
  have m_Reader_has_more : Meth K C_Reader "has_more" f_Reader_has_more := ⟨a_Reader_has_more, i_Reader_has_more, k_Reader_has_more⟩
  have F_Reader_next_word := fun_mk (st := s_Reader_next_word) l_Reader_next_word c_Reader_next_word k_Reader_next_word
  have b_Reader_next_word := F_Reader_next_word.binds (ps := ["self"]) fun _ _ _ _ _ _ us hl => match us, hl with | [_], _ => rfl
  have m_Reader_next_word : Meth K C_Reader "next_word" f_Reader_next_word := ⟨a_Reader_next_word, i_Reader_next_word, k_Reader_next_word⟩
  have F_Reader_next_sort := fun_mk (st := s_Reader_next_sort) l_Reader_next_sort c_Reader_next_sort k_Reader_next_sort
  have b_Reader_next_sort := F_Reader_next_sort.binds (ps := ["self"]) fun _ _ _ _ _ _ us hl => match us, hl with | [_], _ => rfl
  have m_Reader_next_sort : Meth K C_Reader "next_sort" f_Reader_next_sort := ⟨a_Reader_next_sort, i_Reader_next_sort, k_Reader_next_sort⟩
  have F_Reader_fail := fun_mk (st := s_Reader_fail) l_Reader_fail c_Reader_fail k_Reader_fail
  have b_Reader_fail := F_Reader_fail.binds (ps := ["self"]) fun _ _ _ _ _ _ us hl => match us, hl with | [_], _ => rfl
  have m_Reader_fail : Meth K C_Reader "fail" f_Reader_fail := ⟨a_Reader_fail, i_Reader_fail, k_Reader_fail⟩
  have F_Reader_take := fun_mk (st := s_Reader_take) l_Reader_take c_Reader_take k_Reader_take
  have b_Reader_take := F_Reader_take.binds (ps := ["self", "word"]) fun _ _ _ _ _ _ us hl => match us, hl with | [_, _], _ => rfl
  have m_Reader_take : Meth K C_Reader "take" f_Reader_take := ⟨a_Reader_take, i_Reader_take, k_Reader_take⟩
  have F_Reader_take_sort := fun_mk (st := s_Reader_take_sort) l_Reader_take_sort c_Reader_take_sort k_Reader_take_sort
  have b_Reader_take_sort := F_Reader_take_sort.binds (ps := ["self", "sort"]) fun _ _ _ _ _ _ us hl => match us, hl with | [_, _], _ => rfl
  have m_Reader_take_sort : Meth K C_Reader "take_sort" f_Reader_take_sort := ⟨a_Reader_take_sort, i_Reader_take_sort, k_Reader_take_sort⟩
  have F_Reader_read_name := fun_mk (st := s_Reader_read_name) l_Reader_read_name c_Reader_read_name k_Reader_read_name
  have b_Reader_read_name := F_Reader_read_name.binds (ps := ["self"]) fun _ _ _ _ _ _ us hl => match us, hl with | [_], _ => rfl
  have m_Reader_read_name : Meth K C_Reader "read_name" f_Reader_read_name := ⟨a_Reader_read_name, i_Reader_read_name, k_Reader_read_name⟩
  have F_Reader_read_names := fun_mk (st := s_Reader_read_names) l_Reader_read_names c_Reader_read_names k_Reader_read_names
  have b_Reader_read_names := F_Reader_read_names.binds (ps := ["self"]) fun _ _ _ _ _ _ us hl => match us, hl with | [_], _ => rfl
  have m_Reader_read_names : Meth K C_Reader "read_names" f_Reader_read_names := ⟨a_Reader_read_names, i_Reader_read_names, k_Reader_read_names⟩
  have F_Reader_read_names_in_brackets := fun_mk (st := s_Reader_read_names_in_brackets) l_Reader_read_names_in_brackets c_Reader_read_names_in_brackets k_Reader_read_names_in_brackets
  have b_Reader_read_names_in_brackets := F_Reader_read_names_in_brackets.binds (ps := ["self"]) fun _ _ _ _ _ _ us hl => match us, hl with | [_], _ => rfl
  have m_Reader_read_names_in_brackets : Meth K C_Reader "read_names_in_brackets" f_Reader_read_names_in_brackets := ⟨a_Reader_read_names_in_brackets, i_Reader_read_names_in_brackets, k_Reader_read_names_in_brackets⟩
  have F_Reader_read_score := fun_mk (st := s_Reader_read_score) l_Reader_read_score c_Reader_read_score k_Reader_read_score
  have b_Reader_read_score := F_Reader_read_score.binds (ps := ["self"]) fun _ _ _ _ _ _ us hl => match us, hl with | [_], _ => rfl
  have m_Reader_read_score : Meth K C_Reader "read_score" f_Reader_read_score := ⟨a_Reader_read_score, i_Reader_read_score, k_Reader_read_score⟩
  have F_Reader_read_part := fun_mk (st := s_Reader_read_part) l_Reader_read_part c_Reader_read_part k_Reader_read_part
  have b_Reader_read_part := F_Reader_read_part.binds (ps := ["self"]) fun _ _ _ _ _ _ us hl => match us, hl with | [_], _ => rfl
  have m_Reader_read_part : Meth K C_Reader "read_part" f_Reader_read_part := ⟨a_Reader_read_part, i_Reader_read_part, k_Reader_read_part⟩
  have F_Reader_read_block := fun_mk (st := s_Reader_read_block) l_Reader_read_block c_Reader_read_block k_Reader_read_block
  have b_Reader_read_block := F_Reader_read_block.binds (ps := ["self", "blocks"]) fun _ _ _ _ _ _ us hl => match us, hl with | [_, _], _ => rfl
  have m_Reader_read_block : Meth K C_Reader "read_block" f_Reader_read_block := ⟨a_Reader_read_block, i_Reader_read_block, k_Reader_read_block⟩
  have F_Reader_read_statement := fun_mk (st := s_Reader_read_statement) l_Reader_read_statement c_Reader_read_statement k_Reader_read_statement
  have b_Reader_read_statement := F_Reader_read_statement.binds (ps := ["self", "blocks"]) fun _ _ _ _ _ _ us hl => match us, hl with | [_, _], _ => rfl
  have m_Reader_read_statement : Meth K C_Reader "read_statement" f_Reader_read_statement := ⟨a_Reader_read_statement, i_Reader_read_statement, k_Reader_read_statement⟩
  have F_Reader_read_message := fun_mk (st := s_Reader_read_message) l_Reader_read_message c_Reader_read_message k_Reader_read_message
  have b_Reader_read_message := F_Reader_read_message.binds (ps := ["self", "sender"]) fun _ _ _ _ _ _ us hl => match us, hl with | [_, _], _ => rfl
  have m_Reader_read_message : Meth K C_Reader "read_message" f_Reader_read_message := ⟨a_Reader_read_message, i_Reader_read_message, k_Reader_read_message⟩
  have F_Reader_read_decision := fun_mk (st := s_Reader_read_decision) l_Reader_read_decision c_Reader_read_decision k_Reader_read_decision
  have b_Reader_read_decision := F_Reader_read_decision.binds (ps := ["self", "word"]) fun _ _ _ _ _ _ us hl => match us, hl with | [_, _], _ => rfl
  have m_Reader_read_decision : Meth K C_Reader "read_decision" f_Reader_read_decision := ⟨a_Reader_read_decision, i_Reader_read_decision, k_Reader_read_decision⟩
  have F_Reader_read_if := fun_mk (st := s_Reader_read_if) l_Reader_read_if c_Reader_read_if k_Reader_read_if
  have b_Reader_read_if := F_Reader_read_if.binds (ps := ["self", "blocks"]) fun _ _ _ _ _ _ us hl => match us, hl with | [_, _], _ => rfl
  have m_Reader_read_if : Meth K C_Reader "read_if" f_Reader_read_if := ⟨a_Reader_read_if, i_Reader_read_if, k_Reader_read_if⟩
  have F_Reader_read_while := fun_mk (st := s_Reader_read_while) l_Reader_read_while c_Reader_read_while k_Reader_read_while
  have b_Reader_read_while := F_Reader_read_while.binds (ps := ["self", "blocks"]) fun _ _ _ _ _ _ us hl => match us, hl with | [_, _], _ => rfl
  have m_Reader_read_while : Meth K C_Reader "read_while" f_Reader_read_while := ⟨a_Reader_read_while, i_Reader_read_while, k_Reader_read_while⟩
  have F_Reader_read_value := fun_mk (st := s_Reader_read_value) l_Reader_read_value c_Reader_read_value k_Reader_read_value
  have b_Reader_read_value := F_Reader_read_value.binds (ps := ["self", "brackets"]) fun _ _ _ _ _ _ us hl => match us, hl with | [_, _], _ => rfl
  have m_Reader_read_value : Meth K C_Reader "read_value" f_Reader_read_value := ⟨a_Reader_read_value, i_Reader_read_value, k_Reader_read_value⟩
  have F_Reader_read_sum := fun_mk (st := s_Reader_read_sum) l_Reader_read_sum c_Reader_read_sum k_Reader_read_sum
  have b_Reader_read_sum := F_Reader_read_sum.binds (ps := ["self", "brackets"]) fun _ _ _ _ _ _ us hl => match us, hl with | [_, _], _ => rfl
  have m_Reader_read_sum : Meth K C_Reader "read_sum" f_Reader_read_sum := ⟨a_Reader_read_sum, i_Reader_read_sum, k_Reader_read_sum⟩
  have F_Reader_read_product := fun_mk (st := s_Reader_read_product) l_Reader_read_product c_Reader_read_product k_Reader_read_product
  have b_Reader_read_product := F_Reader_read_product.binds (ps := ["self", "brackets"]) fun _ _ _ _ _ _ us hl => match us, hl with | [_, _], _ => rfl
  have m_Reader_read_product : Meth K C_Reader "read_product" f_Reader_read_product := ⟨a_Reader_read_product, i_Reader_read_product, k_Reader_read_product⟩
  have F_Reader_read_simple := fun_mk (st := s_Reader_read_simple) l_Reader_read_simple c_Reader_read_simple k_Reader_read_simple
  have b_Reader_read_simple := F_Reader_read_simple.binds (ps := ["self", "brackets"]) fun _ _ _ _ _ _ us hl => match us, hl with | [_, _], _ => rfl
  have m_Reader_read_simple : Meth K C_Reader "read_simple" f_Reader_read_simple := ⟨a_Reader_read_simple, i_Reader_read_simple, k_Reader_read_simple⟩
  have F_read_tree := fun_mk (st := s_read_tree) l_read_tree c_read_tree k_read_tree
  have b_read_tree := F_read_tree.binds (ps := ["text"]) fun _ _ _ _ _ _ us hl => match us, hl with | [_], _ => rfl
  have m_read_tree := PySem.W.mg_of X G a_read_tree
  have F_needs_brackets := fun_mk (st := s_needs_brackets) l_needs_brackets c_needs_brackets k_needs_brackets
  have b_needs_brackets := F_needs_brackets.binds (ps := ["part", "sign", "is_right"]) fun _ _ _ _ _ _ us hl => match us, hl with | [_, _, _], _ => rfl
  have m_needs_brackets := PySem.W.mg_of X G a_needs_brackets
  have F_value_pieces := fun_mk (st := s_value_pieces) l_value_pieces c_value_pieces k_value_pieces
  have b_value_pieces := F_value_pieces.binds (ps := ["tree"]) fun _ _ _ _ _ _ us hl => match us, hl with | [_], _ => rfl
  have m_value_pieces := PySem.W.mg_of X G a_value_pieces
  have F_print_value := fun_mk (st := s_print_value) l_print_value c_print_value k_print_value
  have b_print_value := F_print_value.binds (ps := ["tree"]) fun _ _ _ _ _ _ us hl => match us, hl with | [_], _ => rfl
  have m_print_value := PySem.W.mg_of X G a_print_value
  have F_with_commas := fun_mk (st := s_with_commas) l_with_commas c_with_commas k_with_commas
  have b_with_commas := F_with_commas.binds (ps := ["names"]) fun _ _ _ _ _ _ us hl => match us, hl with | [_], _ => rfl
  have m_with_commas := PySem.W.mg_of X G a_with_commas
  have F_statement_pieces := fun_mk (st := s_statement_pieces) l_statement_pieces c_statement_pieces k_statement_pieces
  have b_statement_pieces := F_statement_pieces.binds (ps := ["statement"]) fun _ _ _ _ _ _ us hl => match us, hl with | [_], _ => rfl
  have m_statement_pieces := PySem.W.mg_of X G a_statement_pieces
  have F_block_pieces := fun_mk (st := s_block_pieces) l_block_pieces c_block_pieces k_block_pieces
  have b_block_pieces := F_block_pieces.binds (ps := ["block"]) fun _ _ _ _ _ _ us hl => match us, hl with | [_], _ => rfl
  have m_block_pieces := PySem.W.mg_of X G a_block_pieces
  have F_tree_pieces := fun_mk (st := s_tree_pieces) l_tree_pieces c_tree_pieces k_tree_pieces
  have b_tree_pieces := F_tree_pieces.binds (ps := ["tree"]) fun _ _ _ _ _ _ us hl => match us, hl with | [_], _ => rfl
  have m_tree_pieces := PySem.W.mg_of X G a_tree_pieces
  have F_is_part_of_word := fun_mk (st := s_is_part_of_word) l_is_part_of_word c_is_part_of_word k_is_part_of_word
  have b_is_part_of_word := F_is_part_of_word.binds (ps := ["sign"]) fun _ _ _ _ _ _ us hl => match us, hl with | [_], _ => rfl
  have m_is_part_of_word := PySem.W.mg_of X G a_is_part_of_word
  have F_print_tree := fun_mk (st := s_print_tree) l_print_tree c_print_tree k_print_tree
  have b_print_tree := F_print_tree.binds (ps := ["tree"]) fun _ _ _ _ _ _ us hl => match us, hl with | [_], _ => rfl
  have m_print_tree := PySem.W.mg_of X G a_print_tree
  have F__law_tape := fun_mk (st := s__law_tape) l__law_tape c__law_tape k__law_tape
  have b__law_tape := F__law_tape.binds (ps := ["script"]) fun _ _ _ _ _ _ us hl => match us, hl with | [_], _ => rfl
  have m__law_tape := PySem.W.mg_of X G a__law_tape
  have F__law_take := fun_mk (st := s__law_take) l__law_take c__law_take k__law_take
  have b__law_take := F__law_take.binds (ps := ["tape", "many"]) fun _ _ _ _ _ _ us hl => match us, hl with | [_, _], _ => rfl
  have m__law_take := PySem.W.mg_of X G a__law_take
  have F__law_is_integer := fun_mk (st := s__law_is_integer) l__law_is_integer c__law_is_integer k__law_is_integer
  have b__law_is_integer := F__law_is_integer.binds (ps := ["actual"]) fun _ _ _ _ _ _ us hl => match us, hl with | [_], _ => rfl
  have m__law_is_integer := PySem.W.mg_of X G a__law_is_integer
  have F__law_same_items := fun_mk (st := s__law_same_items) l__law_same_items c__law_same_items k__law_same_items
  have b__law_same_items := F__law_same_items.binds (ps := ["actual", "expected"]) fun _ _ _ _ _ _ us hl => match us, hl with | [_, _], _ => rfl
  have m__law_same_items := PySem.W.mg_of X G a__law_same_items
  have F__law_same := fun_mk (st := s__law_same) l__law_same c__law_same k__law_same
  have b__law_same := F__law_same.binds (ps := ["actual", "expected"]) fun _ _ _ _ _ _ us hl => match us, hl with | [_, _], _ => rfl
  have m__law_same := PySem.W.mg_of X G a__law_same
  have F__law_number := fun_mk (st := s__law_number) l__law_number c__law_number k__law_number
  have b__law_number := F__law_number.binds (ps := ["tape"]) fun _ _ _ _ _ _ us hl => match us, hl with | [_], _ => rfl
  have m__law_number := PySem.W.mg_of X G a__law_number
  have F__law_value := fun_mk (st := s__law_value) l__law_value c__law_value k__law_value
  have b__law_value := F__law_value.binds (ps := ["tape", "depth"]) fun _ _ _ _ _ _ us hl => match us, hl with | [_, _], _ => rfl
  have m__law_value := PySem.W.mg_of X G a__law_value
  have F__law_two := fun_mk (st := s__law_two) l__law_two c__law_two k__law_two
  have b__law_two := F__law_two.binds (ps := ["tape", "ends"]) fun _ _ _ _ _ _ us hl => match us, hl with | [_, _], _ => rfl
  have m__law_two := PySem.W.mg_of X G a__law_two
  have F__law_statement := fun_mk (st := s__law_statement) l__law_statement c__law_statement k__law_statement
  have b__law_statement := F__law_statement.binds (ps := ["tape", "ends", "parts", "depth"]) fun _ _ _ _ _ _ us hl => match us, hl with | [_, _, _, _], _ => rfl
  have m__law_statement := PySem.W.mg_of X G a__law_statement
  have F__law_block := fun_mk (st := s__law_block) l__law_block c__law_block k__law_block
  have b__law_block := F__law_block.binds (ps := ["tape", "ends", "parts", "depth", "most"]) fun _ _ _ _ _ _ us hl => match us, hl with | [_, _, _, _, _], _ => rfl
  have m__law_block := PySem.W.mg_of X G a__law_block
  have F__law_tree := fun_mk (st := s__law_tree) l__law_tree c__law_tree k__law_tree
  have b__law_tree := F__law_tree.binds (ps := ["tape", "depth", "most"]) fun _ _ _ _ _ _ us hl => match us, hl with | [_, _, _], _ => rfl
  have m__law_tree := PySem.W.mg_of X G a__law_tree
  have F__law_put := fun_mk (st := s__law_put) l__law_put c__law_put k__law_put
  have b__law_put := F__law_put.binds (ps := ["tape", "out", "string"]) fun _ _ _ _ _ _ us hl => match us, hl with | [_, _, _], _ => rfl
  have m__law_put := PySem.W.mg_of X G a__law_put
  have F__law_put_value := fun_mk (st := s__law_put_value) l__law_put_value c__law_put_value k__law_put_value
  have b__law_put_value := F__law_put_value.binds (ps := ["tape", "out", "tree", "least"]) fun _ _ _ _ _ _ us hl => match us, hl with | [_, _, _, _], _ => rfl
  have m__law_put_value := PySem.W.mg_of X G a__law_put_value
  have F__law_put_all := fun_mk (st := s__law_put_all) l__law_put_all c__law_put_all k__law_put_all
  have b__law_put_all := F__law_put_all.binds (ps := ["tape", "out", "strings"]) fun _ _ _ _ _ _ us hl => match us, hl with | [_, _, _], _ => rfl
  have m__law_put_all := PySem.W.mg_of X G a__law_put_all
  have F__law_put_names := fun_mk (st := s__law_put_names) l__law_put_names c__law_put_names k__law_put_names
  have b__law_put_names := F__law_put_names.binds (ps := ["tape", "out", "names"]) fun _ _ _ _ _ _ us hl => match us, hl with | [_, _, _], _ => rfl
  have m__law_put_names := PySem.W.mg_of X G a__law_put_names
  have F__law_put_block := fun_mk (st := s__law_put_block) l__law_put_block c__law_put_block k__law_put_block
  have b__law_put_block := F__law_put_block.binds (ps := ["tape", "out", "block"]) fun _ _ _ _ _ _ us hl => match us, hl with | [_, _, _], _ => rfl
  have m__law_put_block := PySem.W.mg_of X G a__law_put_block
  have F__law_put_tree := fun_mk (st := s__law_put_tree) l__law_put_tree c__law_put_tree k__law_put_tree
  have b__law_put_tree := F__law_put_tree.binds (ps := ["tape", "out", "tree"]) fun _ _ _ _ _ _ us hl => match us, hl with | [_, _, _], _ => rfl
  have m__law_put_tree := PySem.W.mg_of X G a__law_put_tree
  have F__law_told := fun_mk (st := s__law_told) l__law_told c__law_told k__law_told
  have b__law_told := F__law_told.binds (ps := ["tree"]) fun _ _ _ _ _ _ us hl => match us, hl with | [_], _ => rfl
  have m__law_told := PySem.W.mg_of X G a__law_told
  have F_law := fun_mk (st := s_law) l_law c_law k_law
  have b_law := F_law.binds (ps := ["script"]) fun _ _ _ _ _ _ us hl => match us, hl with | [_], _ => rfl
  have m_law := PySem.W.mg_of X G a_law
  have X_LETTERS := PySem.W.mg_of X G x_LETTERS
  have X_DIGITS := PySem.W.mg_of X G x_DIGITS
  have X_LETTERS_OF_NAMES := PySem.W.mg_of X G x_LETTERS_OF_NAMES
  have X_SIGNS := PySem.W.mg_of X G x_SIGNS
  have X_MODULUS := PySem.W.mg_of X G x_MODULUS
  have X_MOST_BLOCKS := PySem.W.mg_of X G x_MOST_BLOCKS
  have X_MOST_BRACKETS := PySem.W.mg_of X G x_MOST_BRACKETS
  have X_WORDS := PySem.W.mg_of X G x_WORDS
  have X_LONG_SIGNS := PySem.W.mg_of X G x_LONG_SIGNS
  have X_COMPARISONS := PySem.W.mg_of X G x_COMPARISONS
  have X_SUMS := PySem.W.mg_of X G x_SUMS
  have Z_len := PySem.W.mg_none_of X G z_len
  have Z_abs := PySem.W.mg_none_of X G z_abs
  have Z_int := PySem.W.mg_none_of X G z_int
  have Z_bool := PySem.W.mg_none_of X G z_bool
  have Z_str := PySem.W.mg_none_of X G z_str
  have Z_list := PySem.W.mg_none_of X G z_list
  have Z_tuple := PySem.W.mg_none_of X G z_tuple
  have Z_dict := PySem.W.mg_none_of X G z_dict
  have Z_isinstance := PySem.W.mg_none_of X G z_isinstance
  have Z_range := PySem.W.mg_none_of X G z_range
  have Z_super := PySem.W.mg_none_of X G z_super
  have X_SyntaxProblem := PySem.W.mg_of X G aC_SyntaxProblem
  have X_Reader := PySem.W.mg_of X G aC_Reader
  have X_ScoreError := PySem.W.mg_of X G aC_ScoreError
  have T : Txt K mg := ⟨Z_len, Z_abs, Z_int, Z_bool, Z_str, Z_list, Z_tuple, Z_dict, Z_isinstance, Z_range⟩
  have TT : TokTxt K mg := ⟨⟨_, X_LETTERS⟩, ⟨_, X_DIGITS⟩, ⟨_, X_LETTERS_OF_NAMES⟩, ⟨_, X_SIGNS⟩, ⟨_, X_WORDS, fun H => v_WORDS.seq y_WORDS⟩, ⟨_, X_LONG_SIGNS, fun H => v_LONG_SIGNS.seq y_LONG_SIGNS⟩⟩
  refine ⟨PySem.W.fnOf "law" "law" (defArgs s_law) (defBody s_law) (defScope s_law) .none kV_law dc_law pm_law an_law cd_law ct_law, fun s v => .of_eq rfl, fun base _ _ => ?_⟩
  have OE : OexC K C_SyntaxProblem := ⟨⟨_, _, _, _, _, _, _, _, _, _, _, _, _, _, _, xS, rfl⟩, saS, eS, tS, kS⟩
  have GE := fn_super (P := l.prog) (w := w) (mg := mg) (base := base) (msg := "the text cannot be read") (fld := "start") (arg := "start") lS cS OE (by rfl) (by rfl) (by rfl) (by rfl) (by decide +kernel) rfl rfl rfl (by rfl) (by rfl) (by decide +kernel) (by decide +kernel) coS vS fiS topS ceS dS moS Z_super anyS suS veS noS (fun env => ⟨_, rfl⟩)
  have O_SyntaxProblem : OCal l.prog w K mg base C_SyntaxProblem "SyntaxProblem" "start" fS _ := ⟨OE, inS, tiS, GE, Binds.all fun us hl => (match us, hl with | [_, _], _ => rfl), X_SyntaxProblem⟩
  have CR : RdTxt K C_Reader := ⟨⟨pg, hd, po, sa⟩, nT, nK, nA⟩
  have RE : XfC K C_SyntaxProblem := ⟨gaS, ggS, eS, hS⟩
  have hMod : ∃ t, mg "MODULUS" = some (.int 4294967296 t) := ⟨_, X_MODULUS⟩
  have hMBl : ∃ t, mg "MOST_BLOCKS" = some (.int 12 t) := ⟨_, X_MOST_BLOCKS⟩
  have hMBr : ∃ t, mg "MOST_BRACKETS" = some (.int 12 t) := ⟨_, X_MOST_BRACKETS⟩
  have C_run_end : Cal l.prog w K mg base 1 _ _ spRun _ _ := ⟨ok_run_end F_run_end T, b_run_end, k_run_end, m_run_end⟩
  have C_line_end : Cal l.prog w K mg base 1 _ _ spLine _ _ := ⟨ok_line_end F_line_end T, b_line_end, k_line_end, m_line_end⟩
  have C_token_at : Cal l.prog w K mg base 2 _ _ spTokAt _ _ := ⟨ok_token_at F_token_at T TT C_run_end, b_token_at, k_token_at, m_token_at⟩
  have C_tokens : Cal l.prog w K mg base 3 _ _ spTokens _ _ := ⟨ok_tokens F_tokens T C_line_end C_token_at, b_tokens, k_tokens, m_tokens⟩
  have C_number_value : Cal l.prog w K mg base 1 _ _ spNum _ _ := ⟨ok_number_value F_number_value T hMod, b_number_value, k_number_value, m_number_value⟩
  have C_Reader_has_more : MCal l.prog w K mg base C_Reader 1 _ _ (spMore C_Reader) _ _ := ⟨ok_has_more F_Reader_has_more T CR, b_Reader_has_more, m_Reader_has_more⟩
  have C_Reader_next_word : MCal l.prog w K mg base C_Reader 2 _ _ (spNw C_Reader) _ _ := ⟨ok_next_word F_Reader_next_word T CR C_Reader_has_more, b_Reader_next_word, m_Reader_next_word⟩
  have C_Reader_next_sort : MCal l.prog w K mg base C_Reader 2 _ _ (spNs C_Reader) _ _ := ⟨ok_next_sort F_Reader_next_sort T CR C_Reader_has_more, b_Reader_next_sort, m_Reader_next_sort⟩
  have C_Reader_fail : MCalX l.prog w K mg base C_Reader 3 _ _ (spFail C_Reader C_SyntaxProblem) _ _ := ⟨ok_fail F_Reader_fail T CR O_SyntaxProblem C_Reader_has_more, b_Reader_fail, m_Reader_fail⟩
  have C_Reader_take : MCalX l.prog w K mg base C_Reader 4 _ _ (spTk C_Reader C_SyntaxProblem) _ _ := ⟨ok_take F_Reader_take T CR C_Reader_next_word C_Reader_fail, b_Reader_take, m_Reader_take⟩
  have C_Reader_take_sort : MCalX l.prog w K mg base C_Reader 4 _ _ (spTs C_Reader C_SyntaxProblem) _ _ := ⟨ok_take_sort F_Reader_take_sort T CR C_Reader_next_word C_Reader_next_sort C_Reader_fail, b_Reader_take_sort, m_Reader_take_sort⟩
  have C_Reader_read_name : MCalX l.prog w K mg base C_Reader 5 _ _ (spRd K C_Reader C_SyntaxProblem [] (fun _ => rname) Dt.str) _ _ := ⟨ok_read_name F_Reader_read_name T CR C_Reader_take_sort, b_Reader_read_name, m_Reader_read_name⟩
  have C_Reader_read_names : MCalX l.prog w K mg base C_Reader 6 _ _ (spRd K C_Reader C_SyntaxProblem [] rnames namesDt) _ _ := ⟨ok_read_names F_Reader_read_names T CR C_Reader_next_word C_Reader_take C_Reader_read_name, b_Reader_read_names, m_Reader_read_names⟩
  have C_Reader_read_names_in_brackets : MCalX l.prog w K mg base C_Reader 7 _ _ (spRd K C_Reader C_SyntaxProblem [] rnamesB namesDt) _ _ := ⟨ok_read_names_in_brackets F_Reader_read_names_in_brackets T CR C_Reader_take C_Reader_read_names, b_Reader_read_names_in_brackets, m_Reader_read_names_in_brackets⟩
  have C_Reader_read_value : MCalX l.prog w K mg base C_Reader 57 _ _ (spV K C_Reader C_SyntaxProblem 13 rvalue) _ _ := ⟨value_all T CR hMBr C_Reader_next_word C_Reader_next_sort C_Reader_take C_Reader_take_sort C_Reader_read_name C_Reader_fail C_number_value F_Reader_read_simple b_Reader_read_simple m_Reader_read_simple F_Reader_read_product b_Reader_read_product m_Reader_read_product F_Reader_read_sum b_Reader_read_sum m_Reader_read_sum F_Reader_read_value b_Reader_read_value m_Reader_read_value 13, b_Reader_read_value, m_Reader_read_value⟩
  have C_Reader_read_message : MCalX l.prog w K mg base C_Reader 58 _ _ (spM K C_Reader C_SyntaxProblem (fun a f => rmsg f a) Stm.dt) _ _ := ⟨ok_read_message F_Reader_read_message T CR C_Reader_take C_Reader_read_name C_Reader_read_value, b_Reader_read_message, m_Reader_read_message⟩
  have C_Reader_read_decision : MCalX l.prog w K mg base C_Reader 58 _ _ (fun vs H Q E => ∃ a : Str, ¬ a = "" ∧ spRd K C_Reader C_SyntaxProblem [.str a] (fun f => rdec f a) decDt vs H Q E) _ _ := ⟨ok_read_decision F_Reader_read_decision T CR C_Reader_take C_Reader_read_name C_Reader_read_value, b_Reader_read_decision, m_Reader_read_decision⟩
  have C_Reader_read_block : MCalX l.prog w K mg base C_Reader 97 _ _ (spB K C_Reader C_SyntaxProblem 13 rblock blkDt) _ _ := ⟨block_all T CR hMBl C_Reader_next_word C_Reader_take C_Reader_fail C_Reader_read_name C_Reader_read_names_in_brackets C_Reader_read_message C_Reader_read_value C_Reader_read_decision F_Reader_read_if b_Reader_read_if m_Reader_read_if F_Reader_read_while b_Reader_read_while m_Reader_read_while F_Reader_read_statement b_Reader_read_statement m_Reader_read_statement F_Reader_read_block b_Reader_read_block m_Reader_read_block 13, b_Reader_read_block, m_Reader_read_block⟩
  have C_Reader_read_part : MCalX l.prog w K mg base C_Reader 98 _ _ (spRd K C_Reader C_SyntaxProblem [] rpart Prt.dt) _ _ := ⟨ok_read_part F_Reader_read_part T CR C_Reader_take C_Reader_read_name C_Reader_read_names_in_brackets C_Reader_read_block, b_Reader_read_part, m_Reader_read_part⟩
  have C_Reader_read_score : MCalX l.prog w K mg base C_Reader 99 _ _ (spRd K C_Reader C_SyntaxProblem [] rscore Tree.dt) _ _ := ⟨ok_read_score F_Reader_read_score T CR C_Reader_has_more C_Reader_next_word C_Reader_fail C_Reader_take C_Reader_read_names C_Reader_read_part C_Reader_read_block, b_Reader_read_score, m_Reader_read_score⟩
  have K_Reader : MkCal l.prog w K mg base C_Reader 4 "Reader" ["self", "text"] (spInit C_Reader) _ _ := ⟨⟨mk, a_Reader___init__, i_Reader___init__, kc⟩, ok_init F_Reader___init__ T CR C_tokens, b_Reader___init__, X_Reader⟩
  have C_read_tree : CalX l.prog w K mg base 100 _ _ (spTree K C_SyntaxProblem) _ _ := ⟨ok_read_tree F_read_tree T CR K_Reader C_Reader_read_score, b_read_tree, k_read_tree, m_read_tree⟩
  have PR : PrTxt K mg := ⟨⟨_, X_COMPARISONS, fun H => v_COMPARISONS.seq y_COMPARISONS⟩, ⟨_, X_SUMS, fun H => v_SUMS.seq y_SUMS⟩⟩
  have IE : ExcC K C_SyntaxProblem := ⟨gaS, ggS, eS, hS, caS, spS, tkS, obS⟩
  have C__law_take : Cal l.prog w K mg base 1 _ _ spTake _ _ := ⟨ok_law_take F__law_take T, b__law_take, k__law_take, m__law_take⟩
  have C__law_tape : Cal l.prog w K mg base 1 _ _ (spTape K) _ _ := ⟨ok_law_tape F__law_tape T, b__law_tape, k__law_tape, m__law_tape⟩
  have C__law_same : Cal l.prog w K mg base 24 _ _ (spSame K 12) _ _ := ⟨same_all T F__law_is_integer b__law_is_integer m__law_is_integer F__law_same_items b__law_same_items m__law_same_items F__law_same b__law_same m__law_same 12, b__law_same, k__law_same, m__law_same⟩
  have Z__law_is_integer : CalZ l.prog w K mg base 1 _ _ spIsInt _ _ := ⟨ok_is_integerZ F__law_is_integer T, b__law_is_integer, k__law_is_integer, m__law_is_integer⟩
  have Z__law_same : CalZ l.prog w K mg base 2 _ _ spSameI _ _ := ⟨ok_sameZ F__law_same T Z__law_is_integer, b__law_same, k__law_same, m__law_same⟩
  have C__law_number : Cal l.prog w K mg base 2 _ _ spNumber _ _ := ⟨ok_law_number F__law_number T C__law_take, b__law_number, k__law_number, m__law_number⟩
  have C__law_value3 : Cal l.prog w K mg base 6 _ _ (spVal K 3) _ _ := ⟨dval_all T C__law_take C__law_number F__law_value b__law_value m__law_value 3, b__law_value, k__law_value, m__law_value⟩
  have C__law_value4 : Cal l.prog w K mg base 7 _ _ (spVal K 4) _ _ := ⟨dval_all T C__law_take C__law_number F__law_value b__law_value m__law_value 4, b__law_value, k__law_value, m__law_value⟩
  have C__law_two : Cal l.prog w K mg base 2 _ _ spTwo _ _ := ⟨ok_law_two F__law_two T C__law_take, b__law_two, k__law_two, m__law_two⟩
  have G_stm := stm_all T C__law_take C__law_two C__law_value3 F__law_block b__law_block m__law_block F__law_statement b__law_statement m__law_statement 3 (P := l.prog) (w := w) (base := base)
  have C__law_block : Cal l.prog w K mg base 15 _ _ (spBlk K 3) _ _ := ⟨ok_law_block F__law_block T 3 C__law_take ⟨G_stm, b__law_statement, F__law_statement.kp, m__law_statement⟩, b__law_block, k__law_block, m__law_block⟩
  have C__law_tree : Cal l.prog w K mg base 16 _ _ (spTreeD K 3) _ _ := ⟨ok_law_tree F__law_tree T C__law_take 3 (by decide) C__law_block, b__law_tree, k__law_tree, m__law_tree⟩
  have C__law_put : Cal l.prog w K mg base 2 _ _ spPut _ _ := ⟨ok_law_put F__law_put T C__law_take, b__law_put, k__law_put, m__law_put⟩
  have C__law_put_value : Cal l.prog w K mg base 6 _ _ (spPV K 3) _ _ := ⟨pv_all T C__law_take C__law_put F__law_put_value b__law_put_value m__law_put_value 3, b__law_put_value, k__law_put_value, m__law_put_value⟩
  have C__law_put_all : Cal l.prog w K mg base 3 _ _ spPA _ _ := ⟨ok_put_all F__law_put_all T C__law_put, b__law_put_all, k__law_put_all, m__law_put_all⟩
  have C__law_put_names : Cal l.prog w K mg base 4 _ _ spPN _ _ := ⟨ok_put_names F__law_put_names T C__law_put_all, b__law_put_names, k__law_put_names, m__law_put_names⟩
  have C__law_put_block : Cal l.prog w K mg base 10 _ _ (spPB K 3) _ _ := ⟨pb_all T C__law_put C__law_put_value C__law_put_all C__law_put_names F__law_put_block b__law_put_block m__law_put_block 3, b__law_put_block, k__law_put_block, m__law_put_block⟩
  have C__law_put_tree : Cal l.prog w K mg base 11 _ _ (spPT K 3) _ _ := ⟨ok_put_tree F__law_put_tree T C__law_put C__law_put_all C__law_put_names 3 (by decide) C__law_put_block, b__law_put_tree, k__law_put_tree, m__law_put_tree⟩
  have C__law_told : Cal l.prog w K mg base 5 _ _ (spTold K 4) _ _ := ⟨told_all T F__law_told b__law_told m__law_told 4, b__law_told, k__law_told, m__law_told⟩
  have C_needs_brackets : Cal l.prog w K mg base 1 _ _ spNB _ _ := ⟨ok_needs_brackets F_needs_brackets T PR, b_needs_brackets, k_needs_brackets, m_needs_brackets⟩
  have C_value_pieces : Cal l.prog w K mg base 2 _ _ (spVP K) _ _ := ⟨ok_value_pieces F_value_pieces T C_needs_brackets, b_value_pieces, k_value_pieces, m_value_pieces⟩
  have C_print_value : Cal l.prog w K mg base 3 _ _ (spPrV K) _ _ := ⟨ok_print_value F_print_value T C_value_pieces, b_print_value, k_print_value, m_print_value⟩
  have C_with_commas : Cal l.prog w K mg base 1 _ _ (spWC K) _ _ := ⟨ok_with_commas F_with_commas T, b_with_commas, k_with_commas, m_with_commas⟩
  have C_statement_pieces : Cal l.prog w K mg base 4 _ _ (spSP K) _ _ := ⟨ok_statement_pieces F_statement_pieces T C_print_value C_with_commas, b_statement_pieces, k_statement_pieces, m_statement_pieces⟩
  have C_block_pieces : Cal l.prog w K mg base 5 _ _ (spBP K) _ _ := ⟨ok_block_pieces F_block_pieces T C_statement_pieces, b_block_pieces, k_block_pieces, m_block_pieces⟩
  have C_tree_pieces : Cal l.prog w K mg base 2 _ _ (spTP K) _ _ := ⟨ok_tree_pieces F_tree_pieces T C_with_commas, b_tree_pieces, k_tree_pieces, m_tree_pieces⟩
  have C_is_part_of_word : Cal l.prog w K mg base 1 _ _ spIP _ _ := ⟨ok_is_part_of_word F_is_part_of_word T, b_is_part_of_word, k_is_part_of_word, m_is_part_of_word⟩
  have C_print_tree : Cal l.prog w K mg base 6 _ _ (spPrT K) _ _ := ⟨ok_print_tree F_print_tree T C_tree_pieces C_block_pieces C_is_part_of_word, b_print_tree, k_print_tree, m_print_tree⟩
  exact ok_law F_law T RE IE noS (exm_is eS iS tS ssS) X_SyntaxProblem X_ScoreError isS C__law_take C__law_tape C__law_tree C__law_put_tree C__law_same C__law_value4 C__law_told C_print_tree C_print_value C_read_tree Z__law_same
theorem walk {l : PySem.W.OpenLaw} {q : Program} {loose : List Str} {XP : (Str → Option Value) → Heap → Prop} {YP : World → Heap → Prop} {d : DefRec} {K : Params → PySem.W.Frag} (hn : l.most = some 63) (hdf : d.params.defaults = [])
    (hY : ∀ (w : World) (h : Heap), YP w h → (K w.params).In h)
    (F : ∀ (w : World) (mg : Str → Option Value) (fa : Addr) (h : Heap), (K w.params).In h → h.Ns mainGlobals mg → mg d.name = some (.ref fa) →
      ∃ fd : FuncData, (∀ (s : Shared) (u : Value), BindsTo s fd ⟨[u], []⟩ [("script", u)]) ∧ ∀ base : Heap, (K w.params).In base → base.Ns mainGlobals mg → FnOk l.prog w (K w.params) mg base CX0 102 fa fd ["script"] (spLaw (K w.params))) :
    PySem.W.WalkO q loose XP YP l.row.toRowW d [] (fun f vs => PySem.call f vs) :=
  L2.walk_of (n := 63) (k := 102) (x := "script") (CX := fun _ => CX0) (sp := fun w => spLaw (K w.params)) hn (by decide) hdf ⟨rfl, by decide, by decide⟩ hY F (fun _ _ a ns hl _ hS => ⟨a, ns, rfl, hS, hl, fun _ => rfl⟩) fun _ _ _ _ _ z => z
end OS

open PySem PySem.W PyProof.Rows in
set_option maxRecDepth 100000 in
set_option maxHeartbeats 0 in
theorem PySem.Challenge.cw_onescore_k02_trees_are_read_as_printed_holds : PySem.Challenge.rw_onescore_k02_trees_are_read_as_printed.Holds := by
  w_on; o_law; k_head; (case hw => w_witness2)
  k_fill
  refine OS.walk (l := PySem.Challenge.rw_onescore_k02_trees_are_read_as_printed) rfl rfl (fun w h Y => PySem.W.kIn_of Y) ?F
  case F =>
    intro w mg fa h KX G hmg
    refine' OS.all_mk KX G hmg ?aC_Reader ?aC_SyntaxProblem ?aC_ScoreError ?a_run_end ?l_run_end ?c_run_end ?k_run_end ?a_line_end ?l_line_end ?c_line_end ?k_line_end ?a_token_at ?l_token_at ?c_token_at ?k_token_at ?a_tokens ?l_tokens ?c_tokens ?k_tokens ?a_number_value ?l_number_value ?c_number_value ?k_number_value ?a_Reader___init__ ?i_Reader___init__ ?l_Reader___init__ ?c_Reader___init__ ?k_Reader___init__ ?a_Reader_has_more ?i_Reader_has_more ?l_Reader_has_more ?c_Reader_has_more ?k_Reader_has_more ?a_Reader_next_word ?i_Reader_next_word ?l_Reader_next_word ?c_Reader_next_word ?k_Reader_next_word ?a_Reader_next_sort ?i_Reader_next_sort ?l_Reader_next_sort ?c_Reader_next_sort ?k_Reader_next_sort ?a_Reader_fail ?i_Reader_fail ?l_Reader_fail ?c_Reader_fail ?k_Reader_fail ?a_Reader_take ?i_Reader_take ?l_Reader_take ?c_Reader_take ?k_Reader_take ?a_Reader_take_sort ?i_Reader_take_sort ?l_Reader_take_sort ?c_Reader_take_sort ?k_Reader_take_sort ?a_Reader_read_name ?i_Reader_read_name ?l_Reader_read_name ?c_Reader_read_name ?k_Reader_read_name ?a_Reader_read_names ?i_Reader_read_names ?l_Reader_read_names ?c_Reader_read_names ?k_Reader_read_names ?a_Reader_read_names_in_brackets ?i_Reader_read_names_in_brackets ?l_Reader_read_names_in_brackets ?c_Reader_read_names_in_brackets ?k_Reader_read_names_in_brackets ?a_Reader_read_score ?i_Reader_read_score ?l_Reader_read_score ?c_Reader_read_score ?k_Reader_read_score ?a_Reader_read_part ?i_Reader_read_part ?l_Reader_read_part ?c_Reader_read_part ?k_Reader_read_part ?a_Reader_read_block ?i_Reader_read_block ?l_Reader_read_block ?c_Reader_read_block ?k_Reader_read_block ?a_Reader_read_statement ?i_Reader_read_statement ?l_Reader_read_statement ?c_Reader_read_statement ?k_Reader_read_statement ?a_Reader_read_message ?i_Reader_read_message ?l_Reader_read_message ?c_Reader_read_message ?k_Reader_read_message ?a_Reader_read_decision ?i_Reader_read_decision ?l_Reader_read_decision ?c_Reader_read_decision ?k_Reader_read_decision ?a_Reader_read_if ?i_Reader_read_if ?l_Reader_read_if ?c_Reader_read_if ?k_Reader_read_if ?a_Reader_read_while ?i_Reader_read_while ?l_Reader_read_while ?c_Reader_read_while ?k_Reader_read_while ?a_Reader_read_value ?i_Reader_read_value ?l_Reader_read_value ?c_Reader_read_value ?k_Reader_read_value ?a_Reader_read_sum ?i_Reader_read_sum ?l_Reader_read_sum ?c_Reader_read_sum ?k_Reader_read_sum ?a_Reader_read_product ?i_Reader_read_product ?l_Reader_read_product ?c_Reader_read_product ?k_Reader_read_product ?a_Reader_read_simple ?i_Reader_read_simple ?l_Reader_read_simple ?c_Reader_read_simple ?k_Reader_read_simple ?a_read_tree ?l_read_tree ?c_read_tree ?k_read_tree ?a_needs_brackets ?l_needs_brackets ?c_needs_brackets ?k_needs_brackets ?a_value_pieces ?l_value_pieces ?c_value_pieces ?k_value_pieces ?a_print_value ?l_print_value ?c_print_value ?k_print_value ?a_with_commas ?l_with_commas ?c_with_commas ?k_with_commas ?a_statement_pieces ?l_statement_pieces ?c_statement_pieces ?k_statement_pieces ?a_block_pieces ?l_block_pieces ?c_block_pieces ?k_block_pieces ?a_tree_pieces ?l_tree_pieces ?c_tree_pieces ?k_tree_pieces ?a_is_part_of_word ?l_is_part_of_word ?c_is_part_of_word ?k_is_part_of_word ?a_print_tree ?l_print_tree ?c_print_tree ?k_print_tree ?a__law_tape ?l__law_tape ?c__law_tape ?k__law_tape ?a__law_take ?l__law_take ?c__law_take ?k__law_take ?a__law_is_integer ?l__law_is_integer ?c__law_is_integer ?k__law_is_integer ?a__law_same_items ?l__law_same_items ?c__law_same_items ?k__law_same_items ?a__law_same ?l__law_same ?c__law_same ?k__law_same ?a__law_number ?l__law_number ?c__law_number ?k__law_number ?a__law_value ?l__law_value ?c__law_value ?k__law_value ?a__law_two ?l__law_two ?c__law_two ?k__law_two ?a__law_statement ?l__law_statement ?c__law_statement ?k__law_statement ?a__law_block ?l__law_block ?c__law_block ?k__law_block ?a__law_tree ?l__law_tree ?c__law_tree ?k__law_tree ?a__law_put ?l__law_put ?c__law_put ?k__law_put ?a__law_put_value ?l__law_put_value ?c__law_put_value ?k__law_put_value ?a__law_put_all ?l__law_put_all ?c__law_put_all ?k__law_put_all ?a__law_put_names ?l__law_put_names ?c__law_put_names ?k__law_put_names ?a__law_put_block ?l__law_put_block ?c__law_put_block ?k__law_put_block ?a__law_put_tree ?l__law_put_tree ?c__law_put_tree ?k__law_put_tree ?a__law_told ?l__law_told ?c__law_told ?k__law_told ?a_law ?l_law ?c_law ?k_law ?x_LETTERS ?x_DIGITS ?x_LETTERS_OF_NAMES ?x_SIGNS ?x_MODULUS ?x_MOST_BLOCKS ?x_MOST_BRACKETS ?x_WORDS ?y_WORDS ?v_WORDS ?x_LONG_SIGNS ?y_LONG_SIGNS ?v_LONG_SIGNS ?x_COMPARISONS ?y_COMPARISONS ?v_COMPARISONS ?x_SUMS ?y_SUMS ?v_SUMS ?z_len ?z_abs ?z_int ?z_bool ?z_str ?z_list ?z_tuple ?z_dict ?z_isinstance ?z_range ?z_super ?pg ?hd ?po ?sa ?mk ?kc ?nT ?nK ?nA ?xS ?saS ?gaS ?ggS ?noS ?eS ?tS ?kS ?hS ?iS ?ssS ?inS ?tiS ?lS ?cS ?coS ?vS ?fiS ?topS ?ceS ?dS ?moS ?anyS ?suS ?veS ?caS ?spS ?tkS ?obS ?isS
    (case aC_Reader => k_is)
    (case aC_SyntaxProblem => k_is)
    (case aC_ScoreError => k_is)
    (case a_run_end => k_is)
    (case l_run_end => k_is)
    (case c_run_end => k_is)
    (case k_run_end => k_is)
    (case a_line_end => k_is)
    (case l_line_end => k_is)
    (case c_line_end => k_is)
    (case k_line_end => k_is)
    (case a_token_at => k_is)
    (case l_token_at => k_is)
    (case c_token_at => k_is)
    (case k_token_at => k_is)
    (case a_tokens => k_is)
    (case l_tokens => k_is)
    (case c_tokens => k_is)
    (case k_tokens => k_is)
    (case a_number_value => k_is)
    (case l_number_value => k_is)
    (case c_number_value => k_is)
    (case k_number_value => k_is)
    (case a_Reader___init__ => k_is)
    (case i_Reader___init__ => k_is)
    (case l_Reader___init__ => k_is)
    (case c_Reader___init__ => k_is)
    (case k_Reader___init__ => k_is)
    (case a_Reader_has_more => k_is)
    (case i_Reader_has_more => k_is)
    (case l_Reader_has_more => k_is)
    (case c_Reader_has_more => k_is)
    (case k_Reader_has_more => k_is)
    (case a_Reader_next_word => k_is)
    (case i_Reader_next_word => k_is)
    (case l_Reader_next_word => k_is)
    (case c_Reader_next_word => k_is)
    (case k_Reader_next_word => k_is)
    (case a_Reader_next_sort => k_is)
    (case i_Reader_next_sort => k_is)
    (case l_Reader_next_sort => k_is)
    (case c_Reader_next_sort => k_is)
    (case k_Reader_next_sort => k_is)
    (case a_Reader_fail => k_is)
    (case i_Reader_fail => k_is)
    (case l_Reader_fail => k_is)
    (case c_Reader_fail => k_is)
    (case k_Reader_fail => k_is)
    (case a_Reader_take => k_is)
    (case i_Reader_take => k_is)
    (case l_Reader_take => k_is)
    (case c_Reader_take => k_is)
    (case k_Reader_take => k_is)
    (case a_Reader_take_sort => k_is)
    (case i_Reader_take_sort => k_is)
    (case l_Reader_take_sort => k_is)
    (case c_Reader_take_sort => k_is)
    (case k_Reader_take_sort => k_is)
    (case a_Reader_read_name => k_is)
    (case i_Reader_read_name => k_is)
    (case l_Reader_read_name => k_is)
    (case c_Reader_read_name => k_is)
    (case k_Reader_read_name => k_is)
    (case a_Reader_read_names => k_is)
    (case i_Reader_read_names => k_is)
    (case l_Reader_read_names => k_is)
    (case c_Reader_read_names => k_is)
    (case k_Reader_read_names => k_is)
    (case a_Reader_read_names_in_brackets => k_is)
    (case i_Reader_read_names_in_brackets => k_is)
    (case l_Reader_read_names_in_brackets => k_is)
    (case c_Reader_read_names_in_brackets => k_is)
    (case k_Reader_read_names_in_brackets => k_is)
    (case a_Reader_read_score => k_is)
    (case i_Reader_read_score => k_is)
    (case l_Reader_read_score => k_is)
    (case c_Reader_read_score => k_is)
    (case k_Reader_read_score => k_is)
    (case a_Reader_read_part => k_is)
    (case i_Reader_read_part => k_is)
    (case l_Reader_read_part => k_is)
    (case c_Reader_read_part => k_is)
    (case k_Reader_read_part => k_is)
    (case a_Reader_read_block => k_is)
    (case i_Reader_read_block => k_is)
    (case l_Reader_read_block => k_is)
    (case c_Reader_read_block => k_is)
    (case k_Reader_read_block => k_is)
    (case a_Reader_read_statement => k_is)
    (case i_Reader_read_statement => k_is)
    (case l_Reader_read_statement => k_is)
    (case c_Reader_read_statement => k_is)
    (case k_Reader_read_statement => k_is)
    (case a_Reader_read_message => k_is)
    (case i_Reader_read_message => k_is)
    (case l_Reader_read_message => k_is)
    (case c_Reader_read_message => k_is)
    (case k_Reader_read_message => k_is)
    (case a_Reader_read_decision => k_is)
    (case i_Reader_read_decision => k_is)
    (case l_Reader_read_decision => k_is)
    (case c_Reader_read_decision => k_is)
    (case k_Reader_read_decision => k_is)
    (case a_Reader_read_if => k_is)
    (case i_Reader_read_if => k_is)
    (case l_Reader_read_if => k_is)
    (case c_Reader_read_if => k_is)
    (case k_Reader_read_if => k_is)
    (case a_Reader_read_while => k_is)
    (case i_Reader_read_while => k_is)
    (case l_Reader_read_while => k_is)
    (case c_Reader_read_while => k_is)
    (case k_Reader_read_while => k_is)
    (case a_Reader_read_value => k_is)
    (case i_Reader_read_value => k_is)
    (case l_Reader_read_value => k_is)
    (case c_Reader_read_value => k_is)
    (case k_Reader_read_value => k_is)
    (case a_Reader_read_sum => k_is)
    (case i_Reader_read_sum => k_is)
    (case l_Reader_read_sum => k_is)
    (case c_Reader_read_sum => k_is)
    (case k_Reader_read_sum => k_is)
    (case a_Reader_read_product => k_is)
    (case i_Reader_read_product => k_is)
    (case l_Reader_read_product => k_is)
    (case c_Reader_read_product => k_is)
    (case k_Reader_read_product => k_is)
    (case a_Reader_read_simple => k_is)
    (case i_Reader_read_simple => k_is)
    (case l_Reader_read_simple => k_is)
    (case c_Reader_read_simple => k_is)
    (case k_Reader_read_simple => k_is)
    (case a_read_tree => k_is)
    (case l_read_tree => k_is)
    (case c_read_tree => k_is)
    (case k_read_tree => k_is)
    (case a_needs_brackets => k_is)
    (case l_needs_brackets => k_is)
    (case c_needs_brackets => k_is)
    (case k_needs_brackets => k_is)
    (case a_value_pieces => k_is)
    (case l_value_pieces => k_is)
    (case c_value_pieces => k_is)
    (case k_value_pieces => k_is)
    (case a_print_value => k_is)
    (case l_print_value => k_is)
    (case c_print_value => k_is)
    (case k_print_value => k_is)
    (case a_with_commas => k_is)
    (case l_with_commas => k_is)
    (case c_with_commas => k_is)
    (case k_with_commas => k_is)
    (case a_statement_pieces => k_is)
    (case l_statement_pieces => k_is)
    (case c_statement_pieces => k_is)
    (case k_statement_pieces => k_is)
    (case a_block_pieces => k_is)
    (case l_block_pieces => k_is)
    (case c_block_pieces => k_is)
    (case k_block_pieces => k_is)
    (case a_tree_pieces => k_is)
    (case l_tree_pieces => k_is)
    (case c_tree_pieces => k_is)
    (case k_tree_pieces => k_is)
    (case a_is_part_of_word => k_is)
    (case l_is_part_of_word => k_is)
    (case c_is_part_of_word => k_is)
    (case k_is_part_of_word => k_is)
    (case a_print_tree => k_is)
    (case l_print_tree => k_is)
    (case c_print_tree => k_is)
    (case k_print_tree => k_is)
    (case a__law_tape => k_is)
    (case l__law_tape => k_is)
    (case c__law_tape => k_is)
    (case k__law_tape => k_is)
    (case a__law_take => k_is)
    (case l__law_take => k_is)
    (case c__law_take => k_is)
    (case k__law_take => k_is)
    (case a__law_is_integer => k_is)
    (case l__law_is_integer => k_is)
    (case c__law_is_integer => k_is)
    (case k__law_is_integer => k_is)
    (case a__law_same_items => k_is)
    (case l__law_same_items => k_is)
    (case c__law_same_items => k_is)
    (case k__law_same_items => k_is)
    (case a__law_same => k_is)
    (case l__law_same => k_is)
    (case c__law_same => k_is)
    (case k__law_same => k_is)
    (case a__law_number => k_is)
    (case l__law_number => k_is)
    (case c__law_number => k_is)
    (case k__law_number => k_is)
    (case a__law_value => k_is)
    (case l__law_value => k_is)
    (case c__law_value => k_is)
    (case k__law_value => k_is)
    (case a__law_two => k_is)
    (case l__law_two => k_is)
    (case c__law_two => k_is)
    (case k__law_two => k_is)
    (case a__law_statement => k_is)
    (case l__law_statement => k_is)
    (case c__law_statement => k_is)
    (case k__law_statement => k_is)
    (case a__law_block => k_is)
    (case l__law_block => k_is)
    (case c__law_block => k_is)
    (case k__law_block => k_is)
    (case a__law_tree => k_is)
    (case l__law_tree => k_is)
    (case c__law_tree => k_is)
    (case k__law_tree => k_is)
    (case a__law_put => k_is)
    (case l__law_put => k_is)
    (case c__law_put => k_is)
    (case k__law_put => k_is)
    (case a__law_put_value => k_is)
    (case l__law_put_value => k_is)
    (case c__law_put_value => k_is)
    (case k__law_put_value => k_is)
    (case a__law_put_all => k_is)
    (case l__law_put_all => k_is)
    (case c__law_put_all => k_is)
    (case k__law_put_all => k_is)
    (case a__law_put_names => k_is)
    (case l__law_put_names => k_is)
    (case c__law_put_names => k_is)
    (case k__law_put_names => k_is)
    (case a__law_put_block => k_is)
    (case l__law_put_block => k_is)
    (case c__law_put_block => k_is)
    (case k__law_put_block => k_is)
    (case a__law_put_tree => k_is)
    (case l__law_put_tree => k_is)
    (case c__law_put_tree => k_is)
    (case k__law_put_tree => k_is)
    (case a__law_told => k_is)
    (case l__law_told => k_is)
    (case c__law_told => k_is)
    (case k__law_told => k_is)
    (case a_law => k_is)
    (case l_law => k_is)
    (case c_law => k_is)
    (case k_law => k_is)
    (case x_LETTERS => k_is)
    (case x_DIGITS => k_is)
    (case x_LETTERS_OF_NAMES => k_is)
    (case x_SIGNS => k_is)
    (case x_MODULUS => k_is)
    (case x_MOST_BLOCKS => k_is)
    (case x_MOST_BRACKETS => k_is)
    (case x_WORDS => k_is)
    (case y_WORDS => k_is)
    (case v_WORDS => (exact ⟨_, _, rfl, rfl, by decide, by repeat (first | exact .nil | refine .cons ⟨_, rfl⟩ ?_)⟩))
    (case x_LONG_SIGNS => k_is)
    (case y_LONG_SIGNS => k_is)
    (case v_LONG_SIGNS => (exact ⟨_, _, rfl, rfl, by decide, by repeat (first | exact .nil | refine .cons ⟨_, rfl⟩ ?_)⟩))
    (case x_COMPARISONS => k_is)
    (case y_COMPARISONS => k_is)
    (case v_COMPARISONS => (exact ⟨_, _, rfl, rfl, by decide, by repeat (first | exact .nil | refine .cons ⟨_, rfl⟩ ?_)⟩))
    (case x_SUMS => k_is)
    (case y_SUMS => k_is)
    (case v_SUMS => (exact ⟨_, _, rfl, rfl, by decide, by repeat (first | exact .nil | refine .cons ⟨_, rfl⟩ ?_)⟩))
    (case z_len => k_is)
    (case z_abs => k_is)
    (case z_int => k_is)
    (case z_bool => k_is)
    (case z_str => k_is)
    (case z_list => k_is)
    (case z_tuple => k_is)
    (case z_dict => k_is)
    (case z_isinstance => k_is)
    (case z_range => k_is)
    (case z_super => k_is)
    (case pg => k_is)
    (case hd => k_is)
    (case po => k_is)
    (case sa => k_is)
    (case mk => k_is)
    (case kc => k_is)
    (case nT => k_is)
    (case nK => k_is)
    (case nA => k_is)
    (case xS => k_is)
    (case saS => k_is)
    (case gaS => k_is)
    (case ggS => k_is)
    (case noS => k_is)
    (case eS => k_is)
    (case tS => k_is)
    (case kS => k_is)
    (case hS => k_is)
    (case iS => k_is)
    (case ssS => first | rfl | k_is)
    (case inS => k_is)
    (case tiS => k_is)
    (case lS => k_is)
    (case cS => k_is)
    (case coS => k_is)
    (case vS => first | rfl | decide +kernel)
    (case fiS => first | rfl | decide +kernel)
    (case topS => first | rfl | decide +kernel)
    (case ceS => k_is)
    (case dS => first | k_is | rfl)
    (case moS => k_is)
    (case anyS => k_is)
    (case suS => ks_is)
    (case veS => k_is)
    (case caS => k_is)
    (case spS => k_is)
    (case tkS => first | k_is | rfl)
    (case obS => k_is)
    (case isS => first | k_is | kit_is | rfl)
