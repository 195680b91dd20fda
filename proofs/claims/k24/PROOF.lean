import PyProof.Rows.All
import Wide.All
import OpenK.AllK
import Wide.FinOn
import HandS.Codes
import HandS.Deep
import HandS.Dict
import HandS.DictComp
import HandS.Evl
import HandS.ForMost
import HandS.IsInst
import HandS.More
import HandS.RaiseMore
import HandS.StrMore
import HandS.Style
import HandS.TupAny
import HandS.TupMul
import HandS.Walk
import HandS.Zip
import KE.GoesZip
import KE.KDictKeyed
import KE.KTurns
import KE.RegKSuper
import PySem.Challenge.RW_onescore_k24_sound_code
set_option Elab.async false
set_option linter.all false
set_option maxRecDepth 100000
/-! Plain mathematics of tokens: texts as lists of code points. -/
namespace OS
/-- where the run of signs with p stops that begins at i -/
def run (p : Nat → Bool) (cs : List Nat) (i : Nat) : Nat := i + ((cs.drop i).takeWhile p).length
theorem run_le (p : Nat → Bool) (cs : List Nat) {i : Nat} (h : i ≤ cs.length) : run p cs i ≤ cs.length := by
  have h1 : ((cs.drop i).takeWhile p).length ≤ (cs.drop i).length := (List.takeWhile_sublist p).length_le
  rw [List.length_drop] at h1
  unfold run
  omega
theorem le_run (p : Nat → Bool) (cs : List Nat) (i : Nat) : i ≤ run p cs i := Nat.le_add_right _ _
theorem drop_at {cs : List Nat} {i c : Nat} (h : cs[i]? = some c) : cs.drop i = c :: cs.drop (i + 1) := by
  obtain ⟨hi, e⟩ := List.getElem?_eq_some_iff.mp h
  rw [List.drop_eq_getElem_cons hi, e]
theorem run_go {p : Nat → Bool} {cs : List Nat} {i c : Nat} (h : cs[i]? = some c) (hp : p c = true) : run p cs i = run p cs (i + 1) := by
  unfold run
  rw [drop_at h, List.takeWhile_cons, if_pos hp, List.length_cons]
  omega
theorem run_stop {p : Nat → Bool} {cs : List Nat} {i c : Nat} (h : cs[i]? = some c) (hp : p c = false) : run p cs i = i := by
  unfold run
  rw [drop_at h, List.takeWhile_cons, hp]
  simp
theorem run_end {p : Nat → Bool} {cs : List Nat} {i : Nat} (h : cs.length ≤ i) : run p cs i = i := by
  unfold run
  rw [List.drop_eq_nil_of_le h]
  simp
theorem run_congr {p q : Nat → Bool} (h : ∀ c, p c = q c) (cs : List Nat) (i : Nat) : run p cs i = run q cs i := by
  have e : p = q := funext h
  rw [e]
theorem run_gt {p : Nat → Bool} {cs : List Nat} {i c : Nat} (h : cs[i]? = some c) (hp : p c = true) : i < run p cs i := by
  rw [run_go h hp]
  exact Nat.lt_of_lt_of_le (Nat.lt_succ_self i) (le_run p cs (i + 1))

def isLetter (c : Nat) : Bool := (decide (97 ≤ c) && decide (c ≤ 122)) || (decide (65 ≤ c) && decide (c ≤ 90))
def isDigit (c : Nat) : Bool := decide (48 ≤ c) && decide (c ≤ 57)
def isName (c : Nat) : Bool := isLetter c || (isDigit c || c == 95)
def notNl (c : Nat) : Bool := c != 10
/-- the sort and the end of the token at i; words tells which stretches are words, longs which two signs stand together, signs the rest -/
structure Tab where
  word : List Nat → Bool
  long : List Nat → Bool
  sign : Nat → Bool
inductive Srt where
  | word | name | number | sign | wrong
  deriving DecidableEq
def tokAt (T : Tab) (cs : List Nat) (i : Nat) : Srt × Nat :=
  match cs[i]? with
  | none => (.wrong, i + 1)
  | some c =>
    if isLetter c = true then
      (if T.word ((cs.drop i).take (run isName cs i - i)) = true then .word else .name, run isName cs i)
    else if isDigit c = true then (.number, run isDigit cs i)
    else if T.long ((cs.drop i).take 2) = true then (.sign, i + 2)
    else (if T.sign c = true then .sign else .wrong, i + 1)
theorem letter_name {c : Nat} (h : isLetter c = true) : isName c = true := by
  unfold isName; rw [h]; rfl
theorem tokAt_gt (T : Tab) (cs : List Nat) (i : Nat) : i < (tokAt T cs i).2 := by
  unfold tokAt
  cases e : cs[i]? with
  | none => exact Nat.lt_succ_self i
  | some c =>
    dsimp only
    by_cases h1 : isLetter c = true
    · rw [if_pos h1]; exact run_gt e (letter_name h1)
    · rw [if_neg h1]
      by_cases h2 : isDigit c = true
      · rw [if_pos h2]; exact run_gt e h2
      · rw [if_neg h2]
        by_cases h3 : T.long ((cs.drop i).take 2) = true
        · rw [if_pos h3]; show i < i + 2; omega
        · rw [if_neg h3]; show i < i + 1; omega

theorem tokAt_le (T : Tab) (cs : List Nat) {i : Nat} (h : i < cs.length) : (tokAt T cs i).2 ≤ cs.length + 1 := by
  unfold tokAt
  cases e : cs[i]? with
  | none => show i + 1 ≤ _; omega
  | some c =>
    dsimp only
    by_cases h1 : isLetter c = true
    · rw [if_pos h1]; exact Nat.le_succ_of_le (run_le _ cs (by omega))
    · rw [if_neg h1]
      by_cases h2 : isDigit c = true
      · rw [if_pos h2]; exact Nat.le_succ_of_le (run_le _ cs (by omega))
      · rw [if_neg h2]
        by_cases h3 : T.long ((cs.drop i).take 2) = true
        · rw [if_pos h3]; show i + 2 ≤ _; omega
        · rw [if_neg h3]; show i + 1 ≤ _; omega

structure Tk where
  s : Srt
  a : Nat
  b : Nat
/-- the tokens from i on -/
inductive Toks (T : Tab) (cs : List Nat) : Nat → List Tk → Prop
  | done {i : Nat} : cs.length ≤ i → Toks T cs i []
  | skip {i c : Nat} {L : List Tk} : cs[i]? = some c → (c = 32 ∨ c = 10) → Toks T cs (i + 1) L → Toks T cs i L
  | note {i : Nat} {L : List Tk} : cs[i]? = some 35 → Toks T cs (run notNl cs i) L → Toks T cs i L
  | tok {i c : Nat} {L : List Tk} : cs[i]? = some c → ¬ (c = 32 ∨ c = 10) → c ≠ 35 → Toks T cs (tokAt T cs i).2 L → Toks T cs i (⟨(tokAt T cs i).1, i, (tokAt T cs i).2⟩ :: L)
theorem Toks.det {T : Tab} {cs : List Nat} {i : Nat} {L M : List Tk} (h : Toks T cs i L) : Toks T cs i M → L = M := by
  induction h generalizing M with
  | done h =>
    intro g
    cases g with
    | done _ => rfl
    | skip e _ _ => rw [List.getElem?_eq_none h] at e; cases e
    | note e _ => rw [List.getElem?_eq_none h] at e; cases e
    | tok e _ _ _ => rw [List.getElem?_eq_none h] at e; cases e
  | skip e hc _ ih =>
    intro g
    cases g with
    | done h => rw [List.getElem?_eq_none h] at e; cases e
    | skip e' _ g => exact ih g
    | note e' _ => rw [e] at e'; injection e' with e'; omega
    | tok e' n _ _ => rw [e] at e'; injection e' with e'; rw [e'] at hc; exact absurd hc n
  | note e _ ih =>
    intro g
    cases g with
    | done h => rw [List.getElem?_eq_none h] at e; cases e
    | skip e' hc _ => rw [e] at e'; injection e' with e'; omega
    | note _ g => exact ih g
    | tok e' _ n _ => rw [e] at e'; injection e' with e'; exact absurd e'.symm n
  | tok e n1 n2 _ ih =>
    intro g
    cases g with
    | done h => rw [List.getElem?_eq_none h] at e; cases e
    | skip e' hc _ => rw [e] at e'; injection e' with e'; rw [e'] at n1; exact absurd hc n1
    | note e' _ => rw [e] at e'; injection e' with e'; exact absurd e' n2
    | tok _ _ _ g => rw [ih g]
end OS

/-! What all laws share: callees, data, heaps. -/
namespace OS
open PySem PySem.Spec PyProof.Rows L2
/-- a def that may be called: it keeps its promise, binds its parameters, stands at its name -/
structure Cal (P : Program) (w : World) (K : PySem.W.Frag) (mg : Str → Option Value) (base : Heap) (k : Nat) (x : Str) (ps : List Str) (sp : Sp) (f : Addr) (fd : FuncData) : Prop where
  G : FnOk P w K mg base CX0 k f fd ps sp
  b : Binds K fd ps []
  k : PySem.W.keepIn K (.ref f) = true
  m : mg x = some (.ref f)
theorem relS {z : Str} {t : Tok} : RelV (.str z) (.str z t) := ⟨t, rfl⟩
theorem relI {z : Int} {t : Tok} : RelV (.int z) (.int z t) := ⟨t, rfl⟩
theorem relR {a : Addr} : RelV (.ref a) (.ref a) := rfl
theorem same_upd {H : Hp} {p : Addr} {o : HO} (h : H p = none) : Same H (upd H p o) := fun b x e => by
  rw [upd_ne (ne_of_none e h)]
  exact e
theorem Same.tup {K : PySem.W.Frag} {H H' : Hp} {a : Addr} {xs : List V} (e : Same H H') (h : SqT K H a xs) : SqT K H' a xs := by
  rcases h with (h | ⟨o, h⟩) | h
  · exact .inl (.inl (e _ _ h))
  · exact .inl (.inr ⟨o, e _ _ h⟩)
  · exact .inr h
theorem sz6 {n : Nat} (h : n ≤ 100000) : n ≤ sizeLine := Nat.le_trans h (by decide)
theorem sz6' {n : Nat} (h : n < 100000) : n < sizeLine := Nat.lt_of_lt_of_le h (by decide)
/-- the sign at i of a text -/
theorem atI_cps {z : Str} {i c : Nat} (h : z.cps.toList[i]? = some c) : atI z.cps.toList (i : Int) = some c := atI_nat h
theorem len_cps (z : Str) : z.length = z.cps.toList.length := by
  unfold Str.length
  exact (Array.length_toList).symm
/-- a slice of a text by two places within it -/
theorem cut_mid {z : Str} {i j : Nat} (h1 : i ≤ j) (h2 : j ≤ z.length) : cutS z (some (i : Int)) (some (j : Int)) = ⟨((z.cps.toList.drop i).take (j - i)).toArray⟩ := by
  unfold cutS
  rw [HT.sIx_nat, HT.sIx_nat, Nat.min_eq_left (show i ≤ z.length by omega), Nat.min_eq_left h2]
theorem cut_mid' {z : Str} {i j : Nat} (h1 : i ≤ z.length) (h2 : i ≤ j) : cutS z (some (i : Int)) (some (j : Int)) = ⟨((z.cps.toList.drop i).take (j - i)).toArray⟩ := by
  unfold cutS
  rw [HT.sIx_nat, HT.sIx_nat, Nat.min_eq_left h1]
  by_cases h : j ≤ z.length
  · rw [Nat.min_eq_left h]
  · rw [Nat.min_eq_right (show z.length ≤ j by omega)]
    have e1 : ∀ n, z.length - i ≤ n → (z.cps.toList.drop i).take n = z.cps.toList.drop i := fun n hn => List.take_of_length_le (by rw [List.length_drop, ← len_cps]; exact hn)
    rw [e1 _ (Nat.le_refl _), e1 _ (by omega)]
theorem cut_from {z : Str} {i : Nat} (h1 : i ≤ z.length) : cutS z (some (i : Int)) none = ⟨(z.cps.toList.drop i).toArray⟩ := by
  unfold cutS
  rw [HT.sIx_nat, HT.sIx_none, Nat.min_eq_left h1]
  rw [List.take_of_length_le]
  rw [List.length_drop, ← len_cps]
  exact Nat.le_refl _
/-- one sign in a text: the pure test -/
def inS (z : Str) (c : Nat) : Bool := decide (c ∈ z.cps.toList)
/-- «for c in text» by an invariant over the turns -/
theorem for_str {x : Str} {g : TG} {tb : TS} {D : Ends} {σ : L2.St} {H : Hp} (Pv : Nat → L2.St → Hp → Prop) (h0 : Pv 0 σ H)
    (hs : ∀ i c σ H, x.cps.toList[i]? = some c → Pv i σ H → g (.str ⟨#[c]⟩) σ H fun σ2 H2 => tb { D with nx := Pv (i + 1), ct := Pv (i + 1), bk := D.nx } σ2 H2) (hd : ∀ σ H, Pv x.cps.toList.length σ H → D.nx σ H) :
    ∃ W : Nat → Nat → L2.St → Hp → Prop, (∃ m, W 0 m σ H) ∧ ∀ i m σ H, W i m σ H →
      ((Its x).stop i H ∧ D.nx σ H) ∨ ((Its x).go i H ∧ ∃ N : L2.St → Hp → Prop, (∀ σ' H', N σ' H' → ∃ m', m' < m ∧ W (i + 1) m' σ' H') ∧ ∀ v H', (Its x).yld i H v H' → g v σ H' fun σ2 H2 => tb { D with nx := N, ct := N, bk := D.nx } σ2 H2) := by
  refine ⟨fun i m σ H => m = x.cps.size - i ∧ i ≤ x.cps.size ∧ Pv i σ H, ⟨x.cps.size, by simp, Nat.zero_le _, h0⟩, ?_⟩
  rintro i m σ H ⟨rfl, hi, p⟩
  by_cases hlt : i < x.cps.size
  · refine .inr ⟨hlt, Pv (i + 1), fun σ' H' p' => ⟨x.cps.size - (i + 1), by omega, rfl, hlt, p'⟩, fun v H' y => ?_⟩
    obtain ⟨e, c, ec, rfl⟩ := y
    subst e
    exact hs i c σ _ (by rw [Array.getElem?_toList]; exact ec) p
  · have e : i = x.cps.size := by omega
    subst e
    exact .inl ⟨Nat.le_refl _, hd σ H (by rw [Array.length_toList]; exact p)⟩
/-! ### data: trees of None, bools, ints, texts, tuples, lists -/
inductive Dt where
  | non | bl (b : Bool) | int (i : Int) | str (x : Str) | tup (xs : List Dt) | lst (xs : List Dt)
mutual
/-- v holds the datum -/
def At (K : PySem.W.Frag) (H : Hp) : Dt → V → Prop
  | .non, v => v = .non
  | .bl b, v => v = .bl b
  | .int i, v => v = .int i
  | .str x, v => v = .str x
  | .tup xs, v => ∃ p vs, v = .ref p ∧ H p = some (.tup vs) ∧ AtL K H xs vs
  | .lst xs, v => ∃ p vs, v = .ref p ∧ H p = some (.lst vs) ∧ AtL K H xs vs
def AtL (K : PySem.W.Frag) (H : Hp) : List Dt → List V → Prop
  | [], vs => vs = []
  | d :: ds, vs => ∃ v r, vs = v :: r ∧ At K H d v ∧ AtL K H ds r
end
theorem AtL.length {K : PySem.W.Frag} {H : Hp} : ∀ {ds : List Dt} {vs : List V}, AtL K H ds vs → vs.length = ds.length
  | [], vs, h => by
    unfold AtL at h
    subst h
    rfl
  | d :: ds, vs, h => by
    unfold AtL at h
    obtain ⟨v, r, rfl, _, h⟩ := h
    rw [List.length_cons, List.length_cons, AtL.length h]
theorem AtL.get {K : PySem.W.Frag} {H : Hp} : ∀ {ds : List Dt} {vs : List V} {i : Nat} {d : Dt}, AtL K H ds vs → ds[i]? = some d → ∃ v, vs[i]? = some v ∧ At K H d v
  | [], _, _, _, _, e => by simp at e
  | d :: ds, vs, 0, d', h, e => by
    unfold AtL at h
    obtain ⟨v, r, rfl, hd, _⟩ := h
    have e : d = d' := Option.some.inj e
    subst e
    exact ⟨v, rfl, hd⟩
  | d :: ds, vs, i + 1, d', h, e => by
    unfold AtL at h
    obtain ⟨v, r, rfl, _, h⟩ := h
    exact AtL.get (ds := ds) (vs := r) (i := i) h e
mutual
theorem At.keep {K : PySem.W.Frag} {H H' : Hp} (s : Same H H') : ∀ {d : Dt} {v : V}, At K H d v → At K H' d v
  | .non, v, h => by unfold At at h ⊢; exact h
  | .bl b, v, h => by unfold At at h ⊢; exact h
  | .int i, v, h => by unfold At at h ⊢; exact h
  | .str x, v, h => by unfold At at h ⊢; exact h
  | .tup xs, v, h => by
    unfold At at h ⊢
    obtain ⟨p, vs, e, hp, hl⟩ := h
    exact ⟨p, vs, e, s _ _ hp, AtL.keep s hl⟩
  | .lst xs, v, h => by
    unfold At at h ⊢
    obtain ⟨p, vs, e, hp, hl⟩ := h
    exact ⟨p, vs, e, s _ _ hp, AtL.keep s hl⟩
theorem AtL.keep {K : PySem.W.Frag} {H H' : Hp} (s : Same H H') : ∀ {ds : List Dt} {vs : List V}, AtL K H ds vs → AtL K H' ds vs
  | [], vs, h => by unfold AtL at h ⊢; exact h
  | d :: ds, vs, h => by
    unfold AtL at h ⊢
    obtain ⟨v, r, e, hd, hl⟩ := h
    exact ⟨v, r, e, At.keep s hd, AtL.keep s hl⟩
end
theorem AtL.snoc {K : PySem.W.Frag} {H : Hp} {d : Dt} {v : V} (hd : At K H d v) : ∀ {ds : List Dt} {vs : List V}, AtL K H ds vs → AtL K H (ds ++ [d]) (vs ++ [v])
  | [], vs, h => by
    unfold AtL at h
    subst h
    show AtL K H [d] [v]
    unfold AtL
    exact ⟨v, [], rfl, hd, by unfold AtL; rfl⟩
  | e :: ds, vs, h => by
    unfold AtL at h
    obtain ⟨u, r, rfl, he, h⟩ := h
    show AtL K H (e :: (ds ++ [d])) (u :: (r ++ [v]))
    unfold AtL
    exact ⟨u, _, rfl, he, AtL.snoc hd h⟩
mutual
/-- how deep a datum is, and that its rows are not too long -/
def dep : Dt → Nat
  | .tup xs => depL xs + 1
  | .lst xs => depL xs + 1
  | _ => 0
def depL : List Dt → Nat
  | [] => 0
  | d :: ds => max (dep d) (depL ds)
end
mutual
def narrow : Dt → Prop
  | .tup xs => xs.length ≤ 100000 ∧ narrowL xs
  | .lst xs => xs.length ≤ 100000 ∧ narrowL xs
  | _ => True
def narrowL : List Dt → Prop
  | [] => True
  | d :: ds => narrow d ∧ narrowL ds
end
theorem depL_get : ∀ {ds : List Dt} {i : Nat} {d : Dt}, ds[i]? = some d → dep d ≤ depL ds
  | [], _, _, e => by simp at e
  | d :: ds, 0, d', e => by
    have e : d = d' := Option.some.inj e
    subst e
    unfold depL
    exact Nat.le_max_left _ _
  | d :: ds, i + 1, d', e => by
    have h := depL_get (ds := ds) (i := i) e
    unfold depL
    exact Nat.le_trans h (Nat.le_max_right _ _)
theorem narrowL_get : ∀ {ds : List Dt} {i : Nat} {d : Dt}, narrowL ds → ds[i]? = some d → narrow d
  | [], _, _, _, e => by simp at e
  | d :: ds, 0, d', h, e => by
    have e : d = d' := Option.some.inj e
    subst e
    unfold narrowL at h
    exact h.1
  | d :: ds, i + 1, d', h, e => by
    unfold narrowL at h
    exact narrowL_get h.2 e
end OS
namespace OS
theorem deep_of {xs : List Dt} {n : Nat} (h : depL xs + 1 < n + 1) (hn : narrowL xs) : ∀ d ∈ xs, dep d < n ∧ narrow d := fun d hd => by
  obtain ⟨i, hi⟩ := List.mem_iff_getElem?.mp hd
  exact ⟨Nat.lt_of_le_of_lt (depL_get hi) (by omega), narrowL_get hn hi⟩
end OS
/-! ### the tape from which a law draws -/
namespace OS
open PySem PySem.Spec PyProof.Rows L2
theorem key_ne {a b : Str} (h : ¬ a = b) : ¬ (Sum.inr a : Key) = Sum.inr b := fun q => h (Sum.inr.inj q)
abbrev kS (x : Str) : Key := Sum.inr x
def tapeD (c : Addr) (i left seed salt : Int) : List (Key × V) :=
  [(kS "cells", .ref c), (kS "at", .int i), (kS "left", .int left), (kS "seed", .int seed), (kS "salt", .int salt)]
section
variable {c : Addr} {i left seed salt v : Int}
theorem n01 : ¬ kS "cells" = kS "at" := key_ne (by decide +kernel)
theorem n02 : ¬ kS "cells" = kS "left" := key_ne (by decide +kernel)
theorem n03 : ¬ kS "cells" = kS "seed" := key_ne (by decide +kernel)
theorem n04 : ¬ kS "cells" = kS "salt" := key_ne (by decide +kernel)
theorem n12 : ¬ kS "at" = kS "left" := key_ne (by decide +kernel)
theorem n13 : ¬ kS "at" = kS "seed" := key_ne (by decide +kernel)
theorem n14 : ¬ kS "at" = kS "salt" := key_ne (by decide +kernel)
theorem n23 : ¬ kS "left" = kS "seed" := key_ne (by decide +kernel)
theorem n24 : ¬ kS "left" = kS "salt" := key_ne (by decide +kernel)
theorem n34 : ¬ kS "seed" = kS "salt" := key_ne (by decide +kernel)
theorem n10 : ¬ kS "at" = kS "cells" := Ne.symm n01
theorem n21 : ¬ kS "left" = kS "at" := Ne.symm n12
theorem n31 : ¬ kS "seed" = kS "at" := Ne.symm n13
theorem n41 : ¬ kS "salt" = kS "at" := Ne.symm n14
theorem n32 : ¬ kS "seed" = kS "left" := Ne.symm n23
theorem n42 : ¬ kS "salt" = kS "left" := Ne.symm n24
theorem t_cells : valV (tapeD c i left seed salt) (kS "cells") = some (.ref c) := valV_pos rfl
theorem t_at : valV (tapeD c i left seed salt) (kS "at") = some (.int i) := (valV_neg n01).trans (valV_pos rfl)
theorem t_left : valV (tapeD c i left seed salt) (kS "left") = some (.int left) := (valV_neg n02).trans ((valV_neg n12).trans (valV_pos rfl))
theorem t_seed : valV (tapeD c i left seed salt) (kS "seed") = some (.int seed) := (valV_neg n03).trans ((valV_neg n13).trans ((valV_neg n23).trans (valV_pos rfl)))
theorem t_salt : valV (tapeD c i left seed salt) (kS "salt") = some (.int salt) := (valV_neg n04).trans ((valV_neg n14).trans ((valV_neg n24).trans ((valV_neg n34).trans (valV_pos rfl))))
theorem put_there {kvs : List (Key × V)} {k : Key} {v : V} {u : V} (h : valV kvs k = some u) : putK kvs k v = kvs.map (fun kv => if kv.1 = k then (kv.1, v) else kv) := by
  unfold putK
  rw [valV_any, h]
  exact if_pos rfl
theorem p_at : putK (tapeD c i left seed salt) (kS "at") (.int v) = tapeD c v left seed salt := by
  rw [put_there t_at]
  unfold tapeD
  simp only [List.map_cons, List.map_nil, if_neg n01, if_pos, if_neg n21, if_neg n31, if_neg n41]
theorem p_left : putK (tapeD c i left seed salt) (kS "left") (.int v) = tapeD c i v seed salt := by
  rw [put_there t_left]
  unfold tapeD
  simp only [List.map_cons, List.map_nil, if_neg n02, if_pos, if_neg n12, if_neg n32, if_neg n42]
theorem p_salt : putK (tapeD c i left seed salt) (kS "salt") (.int v) = tapeD c i left seed v := by
  rw [put_there t_salt]
  unfold tapeD
  simp only [List.map_cons, List.map_nil, if_neg n04, if_pos, if_neg n14, if_neg n24, if_neg n34]
end
theorem put_new {kvs : List (Key × V)} {k : Key} {v : V} (h : valV kvs k = none) : putK kvs k v = kvs ++ [(k, v)] := by
  unfold putK
  rw [valV_any, h]
  exact if_neg (by simp)
theorem merge_tape (c : Addr) (i left seed salt : Int) : mergeK [] (tapeD c i left seed salt) = tapeD c i left seed salt := by
  unfold tapeD mergeK
  simp only [List.foldl_cons, List.foldl_nil]
  rw [put_new (k := kS "cells") valV_nil, List.nil_append]
  rw [put_new (k := kS "at") ((valV_neg n01).trans valV_nil)]
  simp only [List.cons_append, List.nil_append]
  rw [put_new (k := kS "left") ((valV_neg n02).trans ((valV_neg n12).trans valV_nil))]
  simp only [List.cons_append, List.nil_append]
  rw [put_new (k := kS "seed") ((valV_neg n03).trans ((valV_neg n13).trans ((valV_neg n23).trans valV_nil)))]
  simp only [List.cons_append, List.nil_append]
  rw [put_new (k := kS "salt") ((valV_neg n04).trans ((valV_neg n14).trans ((valV_neg n24).trans ((valV_neg n34).trans valV_nil))))]
  rfl
/-- d is a tape: what it holds is not told, but that it is in order -/
structure TapeIs (H : Hp) (d c : Addr) (ns : List Int) (i : Nat) (left seed salt : Int) : Prop where
  hd : H d = some (.dK (tapeD c i left seed salt))
  hc : H c = some (.lst (ns.map V.int))
  hi : i ≤ ns.length
  hn : ∀ n ∈ ns, 0 ≤ n
  hl : 0 ≤ left
  hs : 0 ≤ seed ∧ seed < 2 ^ 62
  ht : 0 ≤ salt
section
variable {H : Hp} {d c : Addr} {ns : List Int} {i : Nat} {left seed salt : Int}
theorem TapeIs.gcells (t : TapeIs H d c ns i left seed salt) : DGet H d (.str "cells") (some (.ref c)) := t_cells (i := i) (left := left) (seed := seed) (salt := salt) ▸ DGet.k (k := kS "cells") t.hd
theorem TapeIs.gat (t : TapeIs H d c ns i left seed salt) : DGet H d (.str "at") (some (.int i)) := t_at (c := c) (left := left) (seed := seed) (salt := salt) ▸ DGet.k (k := kS "at") t.hd
theorem TapeIs.gleft (t : TapeIs H d c ns i left seed salt) : DGet H d (.str "left") (some (.int left)) := t_left (c := c) (i := i) (seed := seed) (salt := salt) ▸ DGet.k (k := kS "left") t.hd
theorem TapeIs.gseed (t : TapeIs H d c ns i left seed salt) : DGet H d (.str "seed") (some (.int seed)) := t_seed (c := c) (i := i) (left := left) (salt := salt) ▸ DGet.k (k := kS "seed") t.hd
theorem TapeIs.gsalt (t : TapeIs H d c ns i left seed salt) : DGet H d (.str "salt") (some (.int salt)) := t_salt (c := c) (i := i) (left := left) (seed := seed) ▸ DGet.k (k := kS "salt") t.hd
theorem TapeIs.pat (t : TapeIs H d c ns i left seed salt) (v : Int) : DPut H d (.str "at") (.int v) (upd H d (.dK (tapeD c v left seed salt))) := p_at (c := c) (i := i) (left := left) (seed := seed) (salt := salt) (v := v) ▸ DPut.k (k := kS "at") t.hd (by show 5 < sizeLine; decide)
theorem TapeIs.pleft (t : TapeIs H d c ns i left seed salt) (v : Int) : DPut H d (.str "left") (.int v) (upd H d (.dK (tapeD c i v seed salt))) := p_left (c := c) (i := i) (left := left) (seed := seed) (salt := salt) (v := v) ▸ DPut.k (k := kS "left") t.hd (by show 5 < sizeLine; decide)
theorem TapeIs.psalt (t : TapeIs H d c ns i left seed salt) (v : Int) : DPut H d (.str "salt") (.int v) (upd H d (.dK (tapeD c i left seed v))) := p_salt (c := c) (i := i) (left := left) (seed := seed) (salt := salt) (v := v) ▸ DPut.k (k := kS "salt") t.hd (by show 5 < sizeLine; decide)
theorem TapeIs.cd (t : TapeIs H d c ns i left seed salt) : c ≠ d := ne_of t.hc t.hd (by intro z; cases z)
theorem TapeIs.set (t : TapeIs H d c ns i left seed salt) {j : Nat} {l s : Int} (hj : j ≤ ns.length) (hl : 0 ≤ l) (hs : 0 ≤ s) : TapeIs (upd H d (.dK (tapeD c j l seed s))) d c ns j l seed s :=
  ⟨upd_same, by rw [upd_ne t.cd]; exact t.hc, hj, t.hn, hl, t.hs, hs⟩
end
def Tape (H : Hp) (d c : Addr) : Prop := ∃ ns i left seed salt, TapeIs H d c ns i left seed salt
/-- all but what stands at d is as it was -/
def Off (d : Addr) (H H' : Hp) : Prop := ∀ b, b ≠ d → H' b = H b
theorem Off.refl {d : Addr} {H : Hp} : Off d H H := fun _ _ => rfl
theorem Off.trans {d : Addr} {H H1 H2 : Hp} (a : Off d H H1) (b : Off d H1 H2) : Off d H H2 := fun x hx => (b x hx).trans (a x hx)
theorem off_upd {d : Addr} {H : Hp} {o : HO} : Off d H (upd H d o) := fun b hb => upd_ne hb
/-- all that stood, d apart, stands as it was -/
def Kept (d : Addr) (H H' : Hp) : Prop := ∀ b o, b ≠ d → H b = some o → H' b = some o
theorem Kept.refl {d : Addr} {H : Hp} : Kept d H H := fun _ _ _ h => h
theorem Kept.trans {d : Addr} {H H1 H2 : Hp} (a : Kept d H H1) (b : Kept d H1 H2) : Kept d H H2 := fun x o hx h => b x o hx (a x o hx h)
theorem Kept.of {d : Addr} {H H' : Hp} (s : Same H H') : Kept d H H' := fun b o _ h => s b o h
theorem Off.kept {d : Addr} {H H' : Hp} (s : Off d H H') : Kept d H H' := fun b o hb h => (s b hb).trans h
theorem Tape.at' {H H' : Hp} {d c : Addr} (h : Tape H d c) (e1 : H' d = H d) (e2 : H' c = H c) : Tape H' d c := by
  obtain ⟨ns, i, l, se, sa, h⟩ := h
  exact ⟨ns, i, l, se, sa, e1.trans h.hd, e2.trans h.hc, h.hi, h.hn, h.hl, h.hs, h.ht⟩
theorem Tape.keep {H H' : Hp} {d c : Addr} (s : Same H H') (h : Tape H d c) : Tape H' d c := by
  obtain ⟨ns, i, l, se, sa, h⟩ := h
  exact ⟨ns, i, l, se, sa, s _ _ h.hd, s _ _ h.hc, h.hi, h.hn, h.hl, h.hs, h.ht⟩
/-- a fresh address is not the tape's -/
theorem Tape.ne {H : Hp} {d c p : Addr} (h : Tape H d c) (hp : H p = none) : p ≠ d ∧ p ≠ c := by
  obtain ⟨ns, i, l, se, sa, h⟩ := h
  exact ⟨(ne_of_none h.hd hp).symm, (ne_of_none h.hc hp).symm⟩
theorem Tape.put {H : Hp} {d c p : Addr} {o : HO} (h : Tape H d c) (hp : p ≠ d ∧ p ≠ c) : Tape (upd H p o) d c := h.at' (upd_ne hp.1.symm) (upd_ne hp.2.symm)
theorem Kept.upd {H H' : Hp} {d p : Addr} {o : HO} (k : Kept d H H') (hp : H p = none) : Kept d H (upd H' p o) := fun b u hb e => by
  rw [upd_ne (ne_of_none e hp)]
  exact k b u hb e
def spTape (K : PySem.W.Frag) : Sp := fun vs H Q _ => ∃ (a : Addr) (ns : List Int), vs = [.ref a] ∧ SqL K H a (ns.map V.int) ∧ ns.length ≤ 63 ∧ ∀ d c H', Same H H' → H d = none → H c = none → Tape H' d c → Q (.ref d) H'
def spTake : Sp := fun vs H Q _ => ∃ (d c : Addr) (m : Int), vs = [.ref d, .int m] ∧ Tape H d c ∧ 0 < m ∧ m < 1000000 ∧ ∀ r H', 0 ≤ r → r < m → Tape H' d c → Off d H H' → Q (.int r) H'
end OS

/-! text.find(sign, i) -/
namespace OS
open PySem PySem.Spec L2 PySem.StrLaws Builtin Builtin.Str
theorem occ_full (s sub : Str) (hi : Nat) : ∀ (l : List Nat) (st : Array Nat × Nat), st.fst.size = 1 → (forIn l st (occBody s sub hi 1)).run.fst = st.fst
  | [], st, h => rfl
  | a :: l, st, h => by
    rw [List.forIn_cons]
    unfold occBody
    rw [if_neg (fun q => by have := q.1.1.1; omega)]
    exact occ_full s sub hi l (st.fst, st.snd) h
theorem occ_first (s sub : Str) (hi : Nat) : ∀ (l : List Nat) (free : Nat), (∀ i ∈ l, free ≤ i) →
    (forIn l ((#[] : Array Nat), free) (occBody s sub hi 1)).run.fst.toList = (l.find? fun i => decide (i + sub.length ≤ hi ∧ subAt s sub i = true)).toList
  | [], free, _ => rfl
  | a :: l, free, hf => by
    rw [List.forIn_cons]
    unfold occBody
    have ha : free ≤ a := hf a (List.mem_cons_self ..)
    by_cases hc : a + sub.length ≤ hi ∧ subAt s sub a = true
    · have c1 : (((#[] : Array Nat), free).fst.size < 1 ∧ ((#[] : Array Nat), free).snd ≤ a) ∧ a + sub.length ≤ hi := ⟨⟨by simp, ha⟩, hc.1⟩
      rw [if_pos ⟨c1, hc.2⟩, List.find?_cons, decide_eq_true hc]
      have e := occ_full s sub hi l (((#[] : Array Nat), free).fst.push a, a + sub.length) (by simp)
      have e2 := congrArg Array.toList e
      exact e2
    · have c2 : ¬ (((((#[] : Array Nat), free).fst.size < 1 ∧ ((#[] : Array Nat), free).snd ≤ a) ∧ a + sub.length ≤ hi) ∧ subAt s sub a = true) := fun h => hc ⟨h.1.2, h.2⟩
      rw [if_neg c2, List.find?_cons, decide_eq_false hc]
      exact occ_first s sub hi l free (fun i hi' => hf i (List.mem_cons_of_mem _ hi'))
theorem find_range (cs : List Nat) (c : Nat) : ∀ (n lo : Nat), lo + n = cs.length + 1 →
    (List.range' lo n).find? (fun i => decide (cs[i]? = some c)) = if run (fun x => x != c) cs lo < cs.length then some (run (fun x => x != c) cs lo) else none
  | 0, lo, h => by
    rw [run_end (by omega), if_neg (by omega)]
    rfl
  | n + 1, lo, h => by
    rw [List.range'_succ, List.find?_cons]
    by_cases e : cs[lo]? = some c
    · rw [decide_eq_true e, run_stop e (by simp), if_pos (List.getElem?_eq_some_iff.mp e).1]
    · rw [decide_eq_false e]
      show (List.range' (lo + 1) n).find? _ = _
      by_cases hl : lo < cs.length
      · have g := List.getElem?_eq_getElem hl
        rw [find_range cs c n (lo + 1) (by omega), ← run_go g (by
          rw [bne_iff_ne]
          intro z
          rw [z] at g
          exact e g)]
      · rw [find_range cs c n (lo + 1) (by omega), run_end (i := lo) (by omega), run_end (i := lo + 1) (by omega), if_neg (by omega), if_neg (by omega)]
theorem find3_one (z : Str) (c i : Nat) (hi : i ≤ z.length) : Txt.find3 z ⟨#[c]⟩ (i : Int) = if run (fun x => x != c) z.cps.toList i < z.length then ((run (fun x => x != c) z.cps.toList i : Nat) : Int) else -1 := by
  have hf : fromIndex z.length (i : Int) = i := by
    unfold fromIndex
    rw [if_neg (by omega)]
    omega
  have hz := len_cps z
  unfold Txt.find3
  rw [hf, occ_eq, occ_first z ⟨#[c]⟩ z.length _ i (fun j hj => (List.mem_range'_1.mp hj).1)]
  have e1 : (fun j => decide (j + (⟨#[c]⟩ : Str).length ≤ z.length ∧ subAt z ⟨#[c]⟩ j = true)) = (fun j => decide (z.cps.toList[j]? = some c)) := by
    funext j
    exact decide_eq_decide.mpr (subAt_one z c j)
  rw [e1, find_range _ _ _ _ (by omega)]
  rw [← hz]
  by_cases h : run (fun x => x != c) z.cps.toList i < z.length
  · rw [if_pos h, if_pos h]
    rfl
  · rw [if_neg h, if_neg h]
    rfl
end OS

/-! Dicts from nested tuples to ints. -/
namespace OS
open PySem PySem.Spec PyProof.Rows L2
mutual
/-- data as a key -/
def nkD : Dt → NestedKey
  | .non => .none
  | .bl b => .num (if b = true then 1 else 0)
  | .int i => .num i
  | .str x => .text x
  | .tup xs => .tup (nkL xs)
  | .lst _ => .none
def nkL : List Dt → List NestedKey
  | [] => []
  | d :: r => nkD d :: nkL r
end
mutual
/-- data that may be a key, or a part of one: no lists, no bools -/
def kable : Dt → Prop
  | .non => True
  | .bl _ => False
  | .int _ => True
  | .str _ => True
  | .tup xs => kableL xs
  | .lst _ => False
def kableL : List Dt → Prop
  | [] => True
  | d :: r => kable d ∧ kableL r
end
mutual
theorem nk_inj : ∀ {a b : Dt}, kable a → kable b → nkD a = nkD b → a = b
  | .non, .non, _, _, _ => rfl
  | .int i, .int j, _, _, h => by
    simp only [nkD] at h
    injection h with h
    rw [h]
  | .str i, .str j, _, _, h => by
    simp only [nkD] at h
    injection h with h
    rw [h]
  | .tup x, .tup y, h1, h2, h => by
    simp only [nkD] at h
    injection h with h
    simp only [kable] at h1 h2
    rw [nkL_inj h1 h2 h]
  | .bl _, _, h1, _, _ => by simp only [kable] at h1
  | _, .bl _, _, h2, _ => by simp only [kable] at h2
  | .lst _, _, h1, _, _ => by simp only [kable] at h1
  | _, .lst _, _, h2, _ => by simp only [kable] at h2
  | .non, .int _, _, _, h => by simp only [nkD] at h; cases h
  | .non, .str _, _, _, h => by simp only [nkD] at h; cases h
  | .non, .tup _, _, _, h => by simp only [nkD] at h; cases h
  | .int _, .non, _, _, h => by simp only [nkD] at h; cases h
  | .int _, .str _, _, _, h => by simp only [nkD] at h; cases h
  | .int _, .tup _, _, _, h => by simp only [nkD] at h; cases h
  | .str _, .non, _, _, h => by simp only [nkD] at h; cases h
  | .str _, .int _, _, _, h => by simp only [nkD] at h; cases h
  | .str _, .tup _, _, _, h => by simp only [nkD] at h; cases h
  | .tup _, .non, _, _, h => by simp only [nkD] at h; cases h
  | .tup _, .int _, _, _, h => by simp only [nkD] at h; cases h
  | .tup _, .str _, _, _, h => by simp only [nkD] at h; cases h
theorem nkL_inj : ∀ {a b : List Dt}, kableL a → kableL b → nkL a = nkL b → a = b
  | [], [], _, _, _ => rfl
  | x :: r, y :: q, h1, h2, h => by
    simp only [nkL] at h
    injection h with e1 e2
    simp only [kableL] at h1 h2
    rw [nk_inj h1.1 h2.1 e1, nkL_inj h1.2 h2.2 e2]
  | [], _ :: _, _, _, h => by simp only [nkL] at h; cases h
  | _ :: _, [], _, _, h => by simp only [nkL] at h; cases h
end
mutual
theorem nk_depth : ∀ {a : Dt}, kable a → (nkD a).depth = dep a
  | .non, _ => by simp only [nkD, NestedKey.depth, dep]
  | .int _, _ => by simp only [nkD, NestedKey.depth, dep]
  | .str _, _ => by simp only [nkD, NestedKey.depth, dep]
  | .tup xs, h => by
    simp only [kable] at h
    simp only [nkD, NestedKey.depth, dep]
    rw [nkL_depth h]
  | .bl _, h => by simp only [kable] at h
  | .lst _, h => by simp only [kable] at h
theorem nkL_depth : ∀ {a : List Dt}, kableL a → NestedKey.depthAll (nkL a) = depL a
  | [], _ => by simp only [nkL, NestedKey.depthAll, depL]
  | d :: r, h => by
    simp only [kableL] at h
    simp only [nkL, NestedKey.depthAll, depL]
    rw [nk_depth h.1, nkL_depth h.2]
end
section
variable {X : Cx} {pins : List (Addr × Obj)} {σ : L2.St} {H : Hp} {s : Shared}
mutual
theorem nk_is (I : Inv X pins σ H s) : ∀ {d : Dt} {v : V} {u : Value}, kable d → At X.K H d v → RelV v u → NestedIs s.heap (nkD d) u
  | .non, v, u, _, h, r => by
    unfold At at h
    subst h
    cases r
    simp only [nkD]
    exact .none
  | .int i, v, u, _, h, r => by
    unfold At at h
    subst h
    obtain ⟨t, rfl⟩ := r
    simp only [nkD]
    exact .int i t
  | .str x, v, u, _, h, r => by
    unfold At at h
    subst h
    obtain ⟨t, rfl⟩ := r
    simp only [nkD]
    exact .text x t
  | .tup xs, v, u, hk, h, r => by
    simp only [kable] at hk
    unfold At at h
    obtain ⟨p, vs, rfl, hp, hl⟩ := h
    obtain rfl : u = Value.ref p := r
    obtain ⟨_, its, rv, o, ho, hc, n, hd⟩ := (I.hok p _ hp : ObjOk X.prog X.w H s.heap p (.tup vs))
    simp only [nkD]
    exact .tup ho hc hd (by rw [List.toList_toArray]; exact nkL_is I hk hl rv)
  | .bl _, _, _, hk, _, _ => by simp only [kable] at hk
  | .lst _, _, _, hk, _, _ => by simp only [kable] at hk
theorem nkL_is (I : Inv X pins σ H s) : ∀ {ds : List Dt} {vs : List V} {us : List Value}, kableL ds → AtL X.K H ds vs → Vals vs us → NestedAll s.heap (nkL ds) us
  | [], vs, us, _, h, r => by
    unfold AtL at h
    subst h
    cases r
    simp only [nkL]
    exact .nil
  | d :: ds, vs, us, hk, h, r => by
    simp only [kableL] at hk
    unfold AtL at h
    obtain ⟨v, q, rfl, h1, h2⟩ := h
    cases r with
    | cons r1 r2 =>
      simp only [nkL]
      exact .cons (nk_is I hk.1 h1 r1) (nkL_is I hk.2 h2 r2)
end
end
/-- the dict at a has these entries, as they stand -/
def dkN (P : Program) (w : World) (a : Addr) (xs : List (NestedKey × Addr × Value)) : HO := .ext fun h => ∃ o es ep, h.get? a = some o ∧ o.ExactDict ∧ o.data = .dict es ep ∧ es.toList = xs.map (entryOfKey (nestedKind P w))
theorem dkN_ok {P : Program} {w : World} {H : Hp} {h : Heap} {a : Addr} {xs : List (NestedKey × Addr × Value)} (x : ∃ o es ep, h.get? a = some o ∧ o.ExactDict ∧ o.data = .dict es ep ∧ es.toList = xs.map (entryOfKey (nestedKind P w))) : ObjOk P w H h a (dkN P w a xs) := by
  refine ⟨x, ?_, ?_⟩
  · obtain ⟨o, _, _, e, _⟩ := x
    exact ⟨o, e⟩
  · rintro h1 h2 ⟨o, es, ep, e, r⟩ k
    exact ⟨o, es, ep, k o e, r⟩
/-- what a key is -/
structure Ky (K : PySem.W.Frag) (H : Hp) (d : Dt) (b : Addr) : Prop where
  cells : At K H d (.ref b)
  ok : kable d
  low : dep d ≤ 8
/-- a dict from data to ints, in the order of insertion -/
structure DkN (P : Program) (w : World) (K : PySem.W.Frag) (H : Hp) (a : Addr) (kvs : List (Dt × Int)) : Prop where
  ex : ∃ xs, H a = some (dkN P w a xs) ∧ Paired (fun (p : Dt × Int) (x : NestedKey × Addr × Value) => x.1 = nkD p.1 ∧ Ky K H p.1 x.2.1 ∧ ∃ t, x.2.2 = .int p.2 t) kvs xs
  nd : (kvs.map (·.1)).Nodup
  sz : kvs.length ≤ 100000
  nm : (a == sysModules) = false
def valI (kvs : List (Dt × Int)) (d : Dt) : Option Int := (kvs.find? fun p => decide (nkD p.1 = nkD d)).map (·.2)
theorem paired_len {α β : Type} {R : α → β → Prop} : ∀ {as : List α} {bs : List β}, Paired R as bs → as.length = bs.length
  | _, _, .nil => rfl
  | _, _, .cons _ r => congrArg (· + 1) (paired_len r)
theorem paired_mem {α β : Type} {R : α → β → Prop} : ∀ {as : List α} {bs : List β}, Paired R as bs → ∀ b ∈ bs, ∃ a ∈ as, R a b
  | _, _, .nil, _, h => by cases h
  | _, _, .cons h r, b, hb => by
    rcases List.mem_cons.mp hb with e | e
    · subst e
      exact ⟨_, List.mem_cons_self, h⟩
    · obtain ⟨a, ha, hr⟩ := paired_mem r b e
      exact ⟨a, List.mem_cons_of_mem _ ha, hr⟩
theorem paired_snoc {α β : Type} {R : α → β → Prop} : ∀ {as : List α} {bs : List β} {a : α} {b : β}, Paired R as bs → R a b → Paired R (as ++ [a]) (bs ++ [b])
  | _, _, _, _, .nil, h => .cons h .nil
  | _, _, _, _, .cons h0 r, h => .cons h0 (paired_snoc r h)
abbrev Ent (K : PySem.W.Frag) (H : Hp) (p : Dt × Int) (x : NestedKey × Addr × Value) : Prop := x.1 = nkD p.1 ∧ Ky K H p.1 x.2.1 ∧ ∃ t, x.2.2 = .int p.2 t
theorem ent_nodup {K : PySem.W.Frag} {H : Hp} : ∀ {kvs : List (Dt × Int)} {xs : List (NestedKey × Addr × Value)}, Paired (Ent K H) kvs xs → (kvs.map (·.1)).Nodup → (xs.map (·.1)).Nodup
  | _, _, .nil, _ => List.nodup_nil
  | _, _, .cons (a := p) (b := x) h r, hn => by
    rw [List.map_cons, List.nodup_cons] at hn ⊢
    refine ⟨fun hm => ?_, ent_nodup r hn.2⟩
    obtain ⟨y, hy, ey⟩ := List.mem_map.mp hm
    obtain ⟨q, hq, hR⟩ := paired_mem r y hy
    have e : nkD q.1 = nkD p.1 := by rw [← hR.1, ey, h.1]
    have := nk_inj hR.2.1.ok h.2.1.ok e
    exact hn.1 (List.mem_map.mpr ⟨q, hq, this⟩)
theorem ent_at {K : PySem.W.Frag} {H : Hp} {d : Dt} : ∀ {kvs : List (Dt × Int)} {xs : List (NestedKey × Addr × Value)}, Paired (Ent K H) kvs xs →
    (valI kvs d = none ∧ atKey xs (nkD d) = none) ∨ ∃ n b t, valI kvs d = some n ∧ atKey xs (nkD d) = some (b, .int n t)
  | _, _, .nil => .inl ⟨rfl, rfl⟩
  | _, _, .cons (l₁ := kvs) (l₂ := xs) (a := p) (b := x) h r => by
    obtain ⟨e1, _, t, e2⟩ := h
    by_cases c : nkD p.1 = nkD d
    · refine .inr ⟨p.2, x.2.1, t, ?_, ?_⟩
      · unfold valI
        rw [List.find?_cons, decide_eq_true c]
        rfl
      · unfold atKey
        rw [List.find?_cons, e1, decide_eq_true c]
        show some x.2 = _
        rw [← e2]
    · have f1 : valI (p :: kvs) d = valI kvs d := by
        unfold valI
        rw [List.find?_cons, decide_eq_false c]
      have f2 : atKey (x :: xs) (nkD d) = atKey xs (nkD d) := by
        unfold atKey
        rw [List.find?_cons, e1, decide_eq_false c]
      rw [f1, f2]
      exact ent_at r
theorem ent_keep {K : PySem.W.Frag} {H H' : Hp} (k : ∀ d b, Ky K H d b → Ky K H' d b) : ∀ {kvs : List (Dt × Int)} {xs : List (NestedKey × Addr × Value)}, Paired (Ent K H) kvs xs → Paired (Ent K H') kvs xs
  | _, _, .nil => .nil
  | _, _, .cons h r => .cons ⟨h.1, k _ _ h.2.1, h.2.2⟩ (ent_keep k r)
mutual
/-- keys stand where no tuple is touched -/
theorem ky_at {K : PySem.W.Frag} {H H' : Hp} (k : ∀ b xs, H b = some (.tup xs) → H' b = some (.tup xs)) : ∀ {d : Dt} {v : V}, kable d → At K H d v → At K H' d v
  | .non, v, _, h => by unfold At at h ⊢; exact h
  | .int i, v, _, h => by unfold At at h ⊢; exact h
  | .str x, v, _, h => by unfold At at h ⊢; exact h
  | .tup xs, v, hk, h => by
    simp only [kable] at hk
    unfold At at h ⊢
    obtain ⟨p, vs, e, hp, hl⟩ := h
    exact ⟨p, vs, e, k _ _ hp, kyL_at k hk hl⟩
  | .bl _, _, hk, _ => by simp only [kable] at hk
  | .lst _, _, hk, _ => by simp only [kable] at hk
theorem kyL_at {K : PySem.W.Frag} {H H' : Hp} (k : ∀ b xs, H b = some (.tup xs) → H' b = some (.tup xs)) : ∀ {ds : List Dt} {vs : List V}, kableL ds → AtL K H ds vs → AtL K H' ds vs
  | [], vs, _, h => by unfold AtL at h ⊢; exact h
  | d :: ds, vs, hk, h => by
    simp only [kableL] at hk
    unfold AtL at h ⊢
    obtain ⟨v, r, e, hd, hl⟩ := h
    exact ⟨v, r, e, ky_at k hk.1 hd, kyL_at k hk.2 hl⟩
end
theorem Ky.keep {K : PySem.W.Frag} {H H' : Hp} (k : ∀ b xs, H b = some (.tup xs) → H' b = some (.tup xs)) {d : Dt} {b : Addr} (h : Ky K H d b) : Ky K H' d b := ⟨ky_at k h.ok h.cells, h.ok, h.low⟩
/-- the dict stays where it and the tuples stay -/
theorem DkN.keep {P : Program} {w : World} {K : PySem.W.Frag} {H H' : Hp} {a : Addr} {kvs : List (Dt × Int)} (k : ∀ b xs, H b = some (.tup xs) → H' b = some (.tup xs)) (ka : ∀ u, H a = some u → H' a = some u) (h : DkN P w K H a kvs) : DkN P w K H' a kvs := by
  obtain ⟨⟨xs, e, p⟩, h2, h3, h4⟩ := h
  exact ⟨⟨xs, ka _ e, ent_keep (fun _ _ => Ky.keep k) p⟩, h2, h3, h4⟩
section
variable {X : Cx} {pins : List (Addr × Obj)} {σ : L2.St} {H : Hp} {s : Shared} {a : Addr} {kvs : List (Dt × Int)}
theorem DkN.at (I : Inv X pins σ H s) (h : DkN X.prog X.w X.K H a kvs) : ∃ xs, s.heap.DictOfH (nestedKind X.prog X.w) a xs ∧ H a = some (dkN X.prog X.w a xs) ∧ Paired (Ent X.K H) kvs xs ∧ xs.length ≤ sizeLine := by
  obtain ⟨⟨xs, e, p⟩, h2, h3, h4⟩ := h
  obtain ⟨o, es, ep, e1, e2, e3, e4⟩ := (I.hok a _ e : ObjOk X.prog X.w H s.heap a (dkN X.prog X.w a xs)).1
  refine ⟨xs, ⟨o, es, ep, e1, e2, e3, e4, fun x hx => ?_, ent_nodup p h2⟩, e, p, ?_⟩
  · obtain ⟨q, _, hR⟩ := paired_mem p x hx
    obtain ⟨r1, r2, _⟩ := hR
    refine ⟨?_, ?_⟩
    · rw [r1]
      exact nk_is I r2.ok r2.cells rfl
    · rw [r1, nk_depth r2.ok]
      exact r2.low
  · rw [← paired_len p]
    exact sz6 h3
theorem ky_is (I : Inv X pins σ H s) {d : Dt} {b : Addr} (k : Ky X.K H d b) : (nestedKind X.prog X.w).is s.heap (nkD d) b := ⟨nk_is I k.ok k.cells rfl, by rw [nk_depth k.ok]; exact k.low⟩
/-- {} -/
def tDNewN (P : Program) (w : World) : TE := fun _ H Q => ∀ p, H p = none → (p == sysModules) = false → Q (.ref p) (upd H p (dkN P w p []))
theorem pe_dnewN {pos : Pos} : PE X (.Dict [] [] pos) (tDNewN X.prog X.w) := ⟨fun pins s σ H Q I h =>
  wpAny_Dict_empty ⟨.ref s.heap.objs.size, _, I.laid (a := s.heap.objs.size) (o := dkN X.prog X.w s.heap.objs.size []) (t' := s.toks) (fun _ _ q => Heap.get?_push_of_some _ q) (Nat.le_refl _) (dkN_ok ⟨_, #[], 0, Heap.get?_push_size _ rfl, ⟨rfl, rfl, rfl⟩, rfl, rfl⟩), rfl,
    h _ (I.hok.fresh (Nat.le_refl _)) (beq_eq_false_iff_ne.mpr (Ne.symm (Nat.ne_of_lt I.big)))⟩⟩
theorem DkN.new {P : Program} {w : World} {K : PySem.W.Frag} {H : Hp} {p : Addr} (hp : (p == sysModules) = false) : DkN P w K (upd H p (dkN P w p [])) p [] := ⟨⟨[], upd_same, .nil⟩, List.nodup_nil, Nat.zero_le _, hp⟩
/-- d.setdefault(key, n) -/
def tSetdN (P : Program) (w : World) (K : PySem.W.Frag) (td ty tx : TE) : TE := fun σ H Q => td σ H fun x H1 => ∃ a kvs0, x = .ref a ∧ DkN P w K H1 a kvs0 ∧ ty σ H1 fun y H2 => tx σ H2 fun z H3 =>
  ∃ kvs d b n, DkN P w K H3 a kvs ∧ y = .ref b ∧ Ky K H3 d b ∧ z = .int n ∧ kvs.length < 100000 ∧ (∀ m, valI kvs d = some m → Q (.int m) H3) ∧ (valI kvs d = none → ∀ H4, DkN P w K H4 a (kvs ++ [(d, n)]) → (∀ c, c ≠ a → H4 c = H3 c) → Q (.int n) H4)
theorem pe_setdN {o e f : Expr} {td ty tx : TE} {apos cpos : Pos} (hu : X.A.units + 64 < cLine) (ho : PE X o td) (he : PE X e ty) (hf : PE X f tx) (m : M2 X o "setdefault" apos e f cpos) : PE X (.Call (.Attribute o "setdefault" apos) [e, f] [] cpos) (tSetdN X.prog X.w X.K td ty tx) := by
  refine ⟨fun pins s σ H Q I h => ?_⟩
  refine wpAny_Call_method m.base m.few m.line PySem.F.plainAttrs_dict PySem.F.slot_dict_setdefault PySem.F.type_dict_setdefault (thn (ho.run pins s σ H _ I h) ?_)
  rintro u0 s1 ⟨x, H1, I1, rx, a, kvs0, rfl, hd0, q1⟩
  obtain rfl : u0 = Value.ref a := rx
  obtain ⟨xs0, dd0, _, _, _⟩ := hd0.at I1
  refine ⟨dd0.typeIs, fun b eb => ?_, ?_⟩
  · cases eb
    obtain ⟨ob, _, _, g1, g2, _⟩ := dd0
    exact ⟨ob, g1, g2.2.1⟩
  rw [m.trees]
  refine Calls.callWith_builtin rfl (Calls.evalArgs_plain (Calls.spliced_cons (thn (he.run pins s1 σ H1 _ I1 q1) ?_)))
  rintro iv s2 ⟨y, H2, I2, ry, q2⟩
  refine Calls.spliced_cons (thn (hf.run pins s2 σ H2 _ I2 q2) ?_)
  rintro fv s3 ⟨z, H3, I3, rz, kvs, d, b, n, hd, rfl, hk, rfl, hl, g1, g2⟩
  refine Calls.spliced_nil ?_
  obtain rfl : iv = Value.ref b := ry
  obtain ⟨tz, rfl⟩ := (show ∃ t, fv = Value.int n t from rz)
  obtain ⟨xs, dd, hx, hp, hsz⟩ := hd.at I3
  have rm : (nestedKind X.prog X.w).room X.A.in1 := by
    show X.A.units + 1 + 8 < cLine
    omega
  refine call_setdefault_heap (hsz := hsz) rm (ky_is I3 hk) hd.nm dd (fun p hp2 => ?_) fun hn h' dd' hs => ?_
  · rcases ent_at (d := d) hp with ⟨_, e2⟩ | ⟨m, b2, t, e1, e2⟩
    · rw [e2] at hp2
      cases hp2
    · rw [e2] at hp2
      have hp2 := Option.some.inj hp2
      subst hp2
      exact ⟨.int m, H3, I3.tok _, ⟨t, rfl⟩, g1 m e1⟩
  · rcases ent_at (d := d) hp with ⟨e1, _⟩ | ⟨m, b2, t, _, e2⟩
    · rw [storedH_new hn] at dd'
      obtain ⟨ob, es, ep, f1, f2, f3, f4, _, _⟩ := dd'
      have hnew : ∀ c, c ≠ a → upd H3 a (dkN X.prog X.w a (xs ++ [(nkD d, b, .int n tz)])) c = H3 c := fun c hc => upd_ne hc
      have tupk : ∀ c ys, H3 c = some (.tup ys) → upd H3 a (dkN X.prog X.w a (xs ++ [(nkD d, b, .int n tz)])) c = some (.tup ys) := fun c ys e => by
        rw [upd_ne (fun z => by rw [z, hx] at e; cases e)]
        exact e
      refine ⟨.int n, upd H3 a (dkN X.prog X.w a (xs ++ [(nkD d, b, .int n tz)])), I3.write (e := a) (by rw [hx]; exact trivial) (.inl rfl) (fun c ob2 hc e => (hs.2 c hc).trans e) ⟨ob, f1⟩ (dkN_ok ⟨ob, es, ep, f1, f2, f3, f4⟩), ⟨_, rfl⟩, ?_⟩
      refine g2 e1 _ ⟨⟨_, upd_same, paired_snoc (ent_keep (fun _ _ => Ky.keep tupk) hp) ⟨rfl, hk.keep tupk, tz, rfl⟩⟩, ?_, ?_, hd.nm⟩ hnew
      · rw [List.map_append]
        refine List.nodup_append.mpr ⟨hd.nd, by simp, fun u hu v hv => ?_⟩
        rw [List.map_singleton, List.mem_singleton] at hv
        subst hv
        intro euv
        subst euv
        obtain ⟨q, hq, eq⟩ := List.mem_map.mp hu
        unfold valI at e1
        have := List.find?_eq_none.mp (Option.map_eq_none_iff.mp e1) q hq
        rw [eq] at this
        simp at this
      · rw [List.length_append]
        show kvs.length + 1 ≤ _
        omega
    · rw [e2] at hn
      cases hn
theorem call_lenN : CallR X (.builtin "len") (fun xs H Q => ∃ (a : Addr) (kvs : List (Dt × Int)), xs = [.ref a] ∧ DkN X.prog X.w X.K H a kvs ∧ Q (.int ((kvs.length : Nat) : Int)) H) := by
  intro pins s σ H xs us Q I r h
  obtain ⟨a, kvs, rfl, hd, q⟩ := h
  cases r with
  | cons rx rr =>
    cases rr
    cases rx
    obtain ⟨ys, dd, _, hp, hsz⟩ := hd.at I
    have hm : s.heap.DictKeyed (nestedKind X.prog X.w) a (pairsH ys) := ⟨ys, dd, rfl⟩
    have hl : (pairsH ys).length = kvs.length := by rw [pairsH_length, paired_len hp]
    have hs := hd.sz
    have hn63 := line63
    refine PyProof.Rows.call_len_slot (n := (((pairsH ys).length : Nat) : Int)) hm.typeIs PySem.F.slot_dict_len (fun Q2 hq => len_keyed hd.nm hm hq) (by omega) (by rw [hl]; have : kvs.length ≤ sizeLine := sz6 hs; omega) ?_
    rw [hl]
    exact ⟨.int ((kvs.length : Nat) : Int), H, I.tok _, ⟨_, rfl⟩, q⟩
/-- d[key] -/
def tDGetN (P : Program) (w : World) (K : PySem.W.Frag) (td ty : TE) : TE := fun σ H Q => td σ H fun x H1 => ty σ H1 fun y H2 => ∃ a kvs d b n, x = .ref a ∧ DkN P w K H2 a kvs ∧ y = .ref b ∧ Ky K H2 d b ∧ valI kvs d = some n ∧ Q (.int n) H2
theorem pe_dgetN {o i : Expr} {td ty : TE} {pos : Pos} (hu : X.A.units + 64 < cLine) (ho : PE X o td) (hi : PE X i ty) (hs : NoSl i) : PE X (.Subscript o i pos) (tDGetN X.prog X.w X.K td ty) := by
  refine ⟨fun pins s σ H Q I h => ?_⟩
  refine subD_of PySem.F.slot_dict_getitem.lookup hs (thn (ho.run pins s σ H _ I h) ?_)
  rintro u0 s1 ⟨x, H1, I1, rx, q1⟩
  refine thn (hi.run pins s1 σ H1 _ I1 q1) ?_
  rintro iv s2 ⟨y, H2, I2, ry, a, kvs, d, b, n, rfl, hd, rfl, hk, hv, q⟩
  obtain rfl : u0 = Value.ref a := rx
  obtain rfl : iv = Value.ref b := ry
  obtain ⟨xs, dd, _, hp, _⟩ := hd.at I2
  have rm : (nestedKind X.prog X.w).room X.A.in1 := by
    show X.A.units + 1 + 8 < cLine
    omega
  refine ⟨dd.typeIs, ?_⟩
  rcases ent_at (d := d) hp with ⟨e1, _⟩ | ⟨m, b2, t, e1, e2⟩
  · rw [hv] at e1
    cases e1
  · rw [hv] at e1
    have e1 := Option.some.inj e1
    subst e1
    exact wpAny_getItem_heap rm (ky_is I2 hk) dd e2 ⟨.int n, H2, I2.tok _, ⟨t, rfl⟩, q⟩
end
end OS

/-! The flat keys of trees; numbers of keys; list.extend with a tuple; len(set(ints)). -/
namespace OS
open PySem PySem.Spec PyProof.Rows L2
mutual
def szD : Dt → Nat
  | .tup xs => szDL xs + 1
  | .non => 1
  | .bl _ => 1
  | .int _ => 1
  | .str _ => 1
  | .lst _ => 1
def szDL : List Dt → Nat
  | [] => 0
  | d :: r => szD d + szDL r
end
theorem szD_pos : ∀ d : Dt, 1 ≤ szD d
  | .tup xs => by simp only [szD]; omega
  | .non => by simp only [szD]; omega
  | .bl _ => by simp only [szD]; omega
  | .int _ => by simp only [szD]; omega
  | .str _ => by simp only [szD]; omega
  | .lst _ => by simp only [szD]; omega
theorem szDL_app : ∀ a b : List Dt, szDL (a ++ b) = szDL a + szDL b
  | [], b => by show szDL b = 0 + szDL b; omega
  | x :: r, b => by
    show szD x + szDL (r ++ b) = szD x + szDL r + szDL b
    rw [szDL_app r b]
    omega
theorem szDL_rev : ∀ a : List Dt, szDL a.reverse = szDL a
  | [] => rfl
  | x :: r => by
    rw [List.reverse_cons, szDL_app, szDL_rev r]
    show szDL r + (szD x + 0) = szD x + szDL r
    omega
theorem szDL_len : ∀ a : List Dt, a.length ≤ szDL a
  | [] => Nat.le_refl _
  | x :: r => by
    have := szDL_len r
    have := szD_pos x
    show r.length + 1 ≤ szD x + szDL r
    omega
/-- the parts of what waits, the next one first -/
def flatF : Nat → List Dt → List Dt
  | 0, _ => []
  | _ + 1, [] => []
  | n + 1, .tup xs :: r => .tup [.int (xs.length : Nat)] :: flatF n (xs.reverse ++ r)
  | n + 1, .non :: r => .non :: flatF n r
  | n + 1, .bl b :: r => .bl b :: flatF n r
  | n + 1, .int i :: r => .int i :: flatF n r
  | n + 1, .str x :: r => .str x :: flatF n r
  | n + 1, .lst xs :: r => .lst xs :: flatF n r
def isTup : Dt → Bool
  | .tup _ => true
  | _ => false
theorem flat_leaf {n : Nat} {d : Dt} {r : List Dt} (h : isTup d = false) : flatF (n + 1) (d :: r) = d :: flatF n r := by
  cases d with
  | tup xs => cases h
  | _ => rfl
theorem flat_nil (n : Nat) : flatF n [] = [] := by cases n <;> rfl
theorem flat_inj : ∀ (n m : Nat) (a b : List Dt), szDL a ≤ n → szDL b ≤ m → flatF n a = flatF m b → a = b
  | 0, m, a, b, h1, h2, e => by
    have l1 := szDL_len a
    have e1 : a = [] := List.eq_nil_of_length_eq_zero (by omega)
    subst e1
    cases b with
    | nil => rfl
    | cons y q =>
      have p := szD_pos y
      have h2 : szD y + szDL q ≤ m := h2
      obtain ⟨m', rfl⟩ : ∃ k, m = k + 1 := ⟨m - 1, by omega⟩
      rw [flat_nil] at e
      cases hy : isTup y with
      | true =>
        cases y with
        | tup ys => exact absurd e (by rw [show flatF (m' + 1) (.tup ys :: q) = .tup [.int (ys.length : Nat)] :: flatF m' (ys.reverse ++ q) from rfl]; simp)
        | _ => cases hy
      | false => rw [flat_leaf hy] at e; cases e
  | n + 1, m, a, b, h1, h2, e => by
    cases a with
    | nil =>
      rw [flat_nil] at e
      cases b with
      | nil => rfl
      | cons y q =>
        have p := szD_pos y
        have h2 : szD y + szDL q ≤ m := h2
        obtain ⟨m', rfl⟩ : ∃ k, m = k + 1 := ⟨m - 1, by omega⟩
        cases hy : isTup y with
        | true =>
          cases y with
          | tup ys => exact absurd e (by rw [show flatF (m' + 1) (.tup ys :: q) = .tup [.int (ys.length : Nat)] :: flatF m' (ys.reverse ++ q) from rfl]; simp)
          | _ => cases hy
        | false => rw [flat_leaf hy] at e; cases e
    | cons x r =>
      have h1 : szD x + szDL r ≤ n + 1 := h1
      have px := szD_pos x
      cases b with
      | nil =>
        rw [flat_nil] at e
        cases hx : isTup x with
        | true =>
          cases x with
          | tup xs => exact absurd e (by rw [show flatF (n + 1) (.tup xs :: r) = .tup [.int (xs.length : Nat)] :: flatF n (xs.reverse ++ r) from rfl]; simp)
          | _ => cases hx
        | false => rw [flat_leaf hx] at e; cases e
      | cons y q =>
        have p := szD_pos y
        have h2 : szD y + szDL q ≤ m := h2
        obtain ⟨m', rfl⟩ : ∃ k, m = k + 1 := ⟨m - 1, by omega⟩
        cases hx : isTup x with
        | true =>
          cases x with
          | tup xs =>
            have e1 : flatF (n + 1) (.tup xs :: r) = .tup [.int (xs.length : Nat)] :: flatF n (xs.reverse ++ r) := rfl
            rw [e1] at e
            cases hy : isTup y with
            | true =>
              cases y with
              | tup ys =>
                have e2 : flatF (m' + 1) (.tup ys :: q) = .tup [.int (ys.length : Nat)] :: flatF m' (ys.reverse ++ q) := rfl
                rw [e2] at e
                injection e with f1 f2
                injection f1 with f1
                injection f1 with f1
                injection f1 with f1
                have f1 : xs.length = ys.length := by omega
                have s1 : szD (.tup xs) = szDL xs + 1 := by simp only [szD]
                have s2 : szD (.tup ys) = szDL ys + 1 := by simp only [szD]
                have ih := flat_inj n m' (xs.reverse ++ r) (ys.reverse ++ q) (by rw [szDL_app, szDL_rev]; omega) (by rw [szDL_app, szDL_rev]; omega) f2
                have := List.append_inj ih (by simpa using f1)
                rw [List.reverse_inj.mp this.1, this.2]
              | _ => cases hy
            | false =>
              rw [flat_leaf hy] at e
              injection e with f1 f2
              rw [← f1] at hy
              cases hy
          | _ => cases hx
        | false =>
          rw [flat_leaf hx] at e
          cases hy : isTup y with
          | true =>
            cases y with
            | tup ys =>
              have e2 : flatF (m' + 1) (.tup ys :: q) = .tup [.int (ys.length : Nat)] :: flatF m' (ys.reverse ++ q) := rfl
              rw [e2] at e
              injection e with f1 f2
              rw [f1] at hx
              cases hx
            | _ => cases hy
          | false =>
            rw [flat_leaf hy] at e
            injection e with f1 f2
            rw [f1, flat_inj n m' r q (by omega) (by omega) f2]
/-- the key of a tree -/
def keyD (d : Dt) : Dt := .tup (flatF (szD d) [d])
theorem keyD_inj {a b : Dt} (h : keyD a = keyD b) : a = b := by
  injection h with h
  have := flat_inj _ _ [a] [b] (by show szD a + 0 ≤ szD a; omega) (by show szD b + 0 ≤ szD b; omega) h
  injection this
/-! ### numbers of keys -/
section
variable {α : Type} [DecidableEq α]
/-- the keys in the order in which they are met first -/
def firsts : List α → List α → List α
  | acc, [] => acc
  | acc, x :: r => firsts (if x ∈ acc then acc else acc ++ [x]) r
def numb (ks : List α) : List Nat := ks.map fun k => (firsts [] ks).idxOf k
theorem firsts_sub : ∀ (ks acc : List α) (x : α), x ∈ acc → x ∈ firsts acc ks
  | [], acc, x, h => h
  | k :: r, acc, x, h => by
    unfold firsts
    refine firsts_sub r _ x ?_
    split
    · exact h
    · exact List.mem_append_left _ h
theorem firsts_mem : ∀ (ks acc : List α) (x : α), x ∈ ks → x ∈ firsts acc ks
  | k :: r, acc, x, h => by
    unfold firsts
    rcases List.mem_cons.mp h with e | h
    · subst e
      refine firsts_sub r _ x ?_
      split
      · assumption
      · exact List.mem_append_right _ (List.mem_singleton_self _)
    · exact firsts_mem r _ x h
theorem firsts_len : ∀ (ks acc : List α), (firsts acc ks).length ≤ acc.length + ks.length
  | [], acc => Nat.le_refl _
  | k :: r, acc => by
    unfold firsts
    have := firsts_len r (if k ∈ acc then acc else acc ++ [k])
    rw [List.length_cons]
    split at this
    · rename_i c
      rw [if_pos c]
      omega
    · rename_i c
      rw [if_neg c]
      rw [List.length_append, List.length_singleton] at this
      omega
theorem idx_inj : ∀ {l : List α} {x y : α}, x ∈ l → l.idxOf x = l.idxOf y → x = y
  | [], _, _, h, _ => by cases h
  | a :: l, x, y, h, e => by
    by_cases c1 : a = x
    · by_cases c2 : a = y
      · exact c1.symm.trans c2
      · rw [List.idxOf_cons, List.idxOf_cons, beq_iff_eq.mpr c1, beq_eq_false_iff_ne.mpr c2] at e
        simp at e
    · by_cases c2 : a = y
      · rw [List.idxOf_cons, List.idxOf_cons, beq_iff_eq.mpr c2, beq_eq_false_iff_ne.mpr c1] at e
        simp at e
      · rw [List.idxOf_cons, List.idxOf_cons, beq_eq_false_iff_ne.mpr c1, beq_eq_false_iff_ne.mpr c2] at e
        simp only [Bool.cond_false] at e
        rcases List.mem_cons.mp h with q | q
        · exact absurd q.symm c1
        · exact idx_inj q (by omega)
theorem numb_len (ks : List α) : (numb ks).length = ks.length := by unfold numb; rw [List.length_map]
theorem numb_eq (ks : List α) {i j : Nat} {x y : α} (hi : ks[i]? = some x) (hj : ks[j]? = some y) : ((numb ks)[i]? = (numb ks)[j]?) ↔ x = y := by
  unfold numb
  rw [List.getElem?_map, List.getElem?_map, hi, hj]
  constructor
  · intro e
    exact idx_inj (firsts_mem ks [] x (List.mem_iff_getElem?.mpr ⟨i, hi⟩)) (Option.some.inj e)
  · rintro rfl
    rfl
theorem numb_lt (ks : List α) {i n : Nat} (h : (numb ks)[i]? = some n) : n < ks.length := by
  unfold numb at h
  rw [List.getElem?_map] at h
  cases hx : ks[i]? with
  | none => rw [hx] at h; cases h
  | some x =>
    rw [hx] at h
    have h := Option.some.inj h
    subst h
    have hm := firsts_mem ks [] x (List.mem_iff_getElem?.mpr ⟨i, hx⟩)
    have h1 := List.idxOf_lt_length_of_mem hm
    have h2 := firsts_len ks []
    rw [List.length_nil, Nat.zero_add] at h2
    exact Nat.lt_of_lt_of_le h1 h2
end
section
open PySem.AutoSeq1 in
theorem meets_extT (l : Addr) (items : Array Value) (n : Nat) (b : Addr) (items2 : Array Value) (n2 : Nat) (od : Option Addr) (sl : Array (Option Value)) (hs0 : ¬(!items.isEmpty && Builtin.List.listTooLong (items.size + items2.size)) = true) (hs1 : items.size ≤ sizeLine) (hs2 : items.size + items2.size ≤ sizeLine + 1) :
    Meets (Builtin.«list.extend» ⟨[.ref l, .ref b], []⟩) (fun _ R s => s.heap.get? l = some { cls := .type "list", data := .seq items n } ∧ s.heap.get? b = some { cls := .type "tuple", dict := od, data := .seq items2 n2, slots := sl } ∧ R (.ok (.ret Value.none)) { s with heap := s.heap.update l (Obj.mapSeq fun x => x ++ items2), toks := s.toks }) :=
  .of_wp fun prog w A R s h => by
    obtain ⟨hp, g, d, tk, os⟩ := s
    obtain ⟨hl, hb, h⟩ := h
    have f1 := AutoSeq1.idx_int
    have f2 := AutoSeq1.sub_tuple_tuple
    have f3 := AutoSeq1.sub_list_list
    have f4 := AutoSeq1.sub_tuple_list
    have f5 := AutoSeq1.sub_list_tuple
    have hz' : (items ++ items2).size ≤ sizeLine + 1 := by rw [Array.size_append]; exact hs2
    wp_walk using (wpAny_updateSeq hl rfl (hz := hs1) (_hz' := hz')), wpAny_loadPart' hl, wpAny_loadPart' hb
    exact ⟨_, rfl, h⟩
end
section
variable {X : Cx}
/-- list.extend with a tuple -/
def rExtT : V → List V → Hp → VK → Prop := fun x vs H Q => ∃ l b xs zs, x = .ref l ∧ vs = [.ref b] ∧ H l = some (.lst xs) ∧ H b = some (.tup zs) ∧ xs.length + zs.length ≤ sizeLine ∧ Q .non (upd H l (.lst (xs ++ zs)))
theorem mt_extT : MtM X "list.extend" rExtT := by
  intro pins s σ H x vs v us Q I rx rv h
  obtain ⟨l, b, xs, zs, rfl, rfl, hH, hB, hz, q⟩ := h
  cases rx
  obtain ⟨u, rfl, ru⟩ := rv.one
  cases ru
  obtain ⟨z, its, n, r, hl, e⟩ := I.lstM hH
  obtain ⟨z2, its2, r2, o, g1, g2, n2, g3⟩ := (I.hok b _ hB : ObjOk X.prog X.w H s.heap b (.tup zs))
  have hl2 := r2.length
  obtain ⟨oc, od, oda, os⟩ := o
  cases g2
  cases g3
  have hsz : its.toArray.size + its2.toArray.size ≤ sizeLine := by rw [List.size_toArray, List.size_toArray]; omega
  have hlong : ¬ (!its.toArray.isEmpty && Builtin.List.listTooLong (its.toArray.size + its2.toArray.size)) = true := by
    rw [L2.notLongL hsz, Bool.and_false]
    exact Bool.false_ne_true
  refine call_meets PySem.F.slot_list_extend ⟨_, e, rfl⟩ PySem.F.entry_list_extend (PySem.F.args_list_extend_2 _ _)
    (meets_extT l its.toArray n b its2.toArray n2 _ _ hlong (by rw [List.size_toArray]; omega) (by omega)) ⟨e, g1, ?_⟩
  refine ⟨.non, _, I.lset (its' := its ++ its2) hH e (by simp) (r.append r2) ?_, rfl, q⟩
  rw [List.length_append]
  omega
/-- len(set(xs)), xs a list of ints -/
def tLenSetD (K : PySem.W.Frag) (ta : TE) : TE := fun σ H Q => ta σ H fun x H1 => ∃ (l : Addr) (ns : List Int), x = .ref l ∧ SqL K H1 l (ns.map V.int) ∧ ns.length ≤ 4000 ∧ Q (.int ((firsts [] ns).length : Nat)) H1
theorem met_firsts (ns : List Int) : ∀ acc : List Int, ns.foldl step_dedup acc = firsts acc ns := by
  induction ns with
  | nil => exact fun _ => rfl
  | cons x r ih =>
    intro acc
    rw [List.foldl_cons, ih]
    show firsts (step_dedup acc x) r = firsts (if x ∈ acc then acc else acc ++ [x]) r
    have e : step_dedup acc x = if x ∈ acc then acc else acc ++ [x] := by
      unfold step_dedup
      by_cases c : x ∈ acc
      · have a : (acc.any (· == x)) = true := List.any_eq_true.mpr ⟨x, c, beq_self_eq_true x⟩
        rw [if_pos c]
        simp only [a, if_true]
      · have a : (acc.any (· == x)) = false := by
          cases h : acc.any (· == x) with
          | false => rfl
          | true =>
            obtain ⟨y, hy, ey⟩ := List.any_eq_true.mp h
            exact absurd ((beq_iff_eq.mp ey) ▸ hy) c
        rw [if_neg c]
        simp only [a]
        rfl
    rw [e]
theorem firstMet_is (ns : List Int) : firstMet (fun i => ns.getD i 0) ns.length = firsts [] ns := by
  unfold firstMet
  rw [← met_firsts ns []]
  congr 1
  refine List.ext_getElem (by simp) fun i h1 h2 => ?_
  have hi : i < ns.length := h2
  rw [List.getElem_map, List.getElem_range, List.getD_eq_getElem?_getD, List.getElem?_eq_getElem hi]
  rfl
theorem pe_lenSetD {a : Expr} {ta : TE} {p p2 q pos : Pos} (hg : Gl X "len") (hm : X.mg "len" = none) (hg2 : Gl X "set") (hm2 : X.mg "set" = none) (ha : PE X a ta) (hc : X.calm = true := by rfl)
    (na : starEach [a] X.env = (false, eval a X.env) :: starEach [] X.env := by rfl) : PE X (.Call (.Name "len" p) [.Call (.Name "set" p2) [a] [] q] [] pos) (tLenSetD X.K ta) := by
  refine ⟨fun pins s σ H Q I h => ?_⟩
  refine Call_ (ld_blt I hg hm PySem.boot_len ?_)
  refine PyProof.Rows.callWith_builtin1 (PyProof.Rows.args_cons ?_ rfl) rfl rfl
  refine Call_ (ld_blt I hg2 hm2 PyProof.Rows.boot_set ?_)
  refine PyProof.Rows.callWith_type1 (PyProof.Rows.args_cons (thn (ha.run pins s σ H _ I h) fun v s1 ⟨x, H1, I1, r1, q1⟩ => PyProof.Rows.args_nil ?_) na) na rfl
  obtain ⟨l, ns, rfl, hq, hl, q1⟩ := q1
  cases r1
  obtain ⟨its, r, pl, hz⟩ := I1.list hq
  have hlen : its.toArray.size = ns.length := by rw [List.size_toArray, ← r.length, List.length_map]
  refine PySem.call_set_list (I1.ok.hd hc) pl.isList (by simpa using RZ.intsAre_vals r) (by rw [hlen]; unfold scanBound; omega) fun h' tk hS hk => ?_
  refine PyProof.Rows.args_nil ?_
  rw [hlen, firstMet_is] at hS
  have hf := firsts_len ns ([] : List Int)
  rw [List.length_nil] at hf
  obtain ⟨o, es, ep, t, ho, hex, hd, _, _, _, hf2, hn⟩ := hS
  have I2 : Inv X pins σ H1 { s1 with heap := h', toks := tk } := I1.kept fun b o e => hk b o (Heap.lt_size e) e
  exact call_len_set ho hex hd hf2 (by rw [hn] <;> omega) ⟨.int ((firsts [] ns).length : Nat), H1, I2.tok _, ⟨_, by rw [hn]⟩, q1⟩
end
end OS

/-! zip(a tuple, a list). -/
namespace OS
open PySem PySem.Spec PyProof.Rows L2
theorem draws_tup {prog : Program} {w : World} {A : Around} (hh : A.handled = none) (it l : Addr) (hne : l ≠ it) (items : Array Value) :
    Draws prog w A it [it, l] items.size (fun i v => items[i]? = some v) (fun i h => h.IsTupleIter it l i ∧ h.IsTuple l items) where
  live := fun _ _ st => let ⟨o, ho, _⟩ := st.1; ⟨o, ho⟩
  frame := fun _ _ _ st hk => ⟨st.1.at fun o e => hk it (by simp) o e, st.2.at fun o e => hk l (by simp) o e⟩
  item := fun i s Q E hi st hQ => RZ.nextOf_tuple_item st.1 st.2 (x := items[i]) (by simp [hi]) fun h' hit' hs' => hQ _ h' s.toks (by simp [hi]) ⟨hit', st.2.extBut hs'.extBut hne⟩ hs'
  done := fun s Q E st hE => RZ.nextOf_tuple_end hh st.1 st.2 (by simp) hE
theorem sep_of {z TI TO i1 i2 a b : Addr} (D : ZipApart z TI TO i1 i2 a b) : ZipSep2 z TI TO i1 i2 [i1, a] [i2, b] where
  TIz := D.TIz
  TOz := D.TOz
  TITO := D.TITO
  TIi1 := D.TIi1
  mem1 := by simp
  zf1 := by simp [D.i1z.symm, D.l1z.symm]
  Tf1 := by simp [D.TOi1, D.l1TO.symm]
  TIi2 := D.TIi2
  mem2 := by simp
  zf2 := by simp [D.i2z.symm, D.l2z.symm]
  Tf2 := by simp [D.TOi2, D.l2TO.symm]
  sep1_2 := by simp [D.i12, D.l2i1.symm]
  sep2_1 := by simp [D.i12.symm, D.l1i2.symm]
/-- the tuple at a and the list at b, item by item, in new pairs -/
def ItzM (K : PySem.W.Frag) (a b : Addr) : It :=
  ⟨fun i H => ∃ (xs ys : List V) (x y : V), SqT K H a xs ∧ SqL K H b ys ∧ xs[i]? = some x ∧ ys[i]? = some y,
    fun i H v H' => ∃ T x y, v = .ref T ∧ H T = none ∧ H' = upd H T (.tup [x, y]) ∧ (∀ xs, SqT K H a xs → xs[i]? = some x) ∧ ∀ ys, SqL K H b ys → ys[i]? = some y,
    fun i H => ∃ xs ys : List V, SqT K H a xs ∧ SqL K H b ys ∧ i ≤ xs.length ∧ i ≤ ys.length ∧ (i = xs.length ∨ i = ys.length)⟩
theorem turn_zipM {P : Program} {w : World} {K : PySem.W.Frag} {elts : List Expr} {kk : Nat} {tpos : Pos} {a b z TI TO i1 i2 : Addr} (D : ZipApart z TI TO i1 i2 a b) :
    Turn P w K (.Tuple elts kk tpos) (ItzM K a b) [z, TI, TO, i1, i2] z (fun i h => IsZip h z TI TO .none ∧ IsPair h TI (.ref i1) (.ref i2) ∧ (∃ x y, IsPair h TO x y) ∧ h.IsTupleIter i1 a i ∧ h.IsListIter i2 b i) where
  mem := by simp
  obj := fun i h st c hc => by
    obtain ⟨hz, hTI, ⟨x, y, hTO⟩, ⟨o1, e1, _, d1⟩, ⟨o2, e2, _, d2⟩⟩ := st
    have e' : c = z ∨ c = TI ∨ c = TO ∨ c = i1 ∨ c = i2 := by simpa using hc
    rcases e' with q | q | q | q | q
    · rw [q]; exact ⟨_, hz, fun v q => nomatch q⟩
    · rw [q]; exact ⟨_, hTI, fun v q => nomatch q⟩
    · rw [q]; exact ⟨_, hTO, fun v q => nomatch q⟩
    · exact ⟨o1, q ▸ e1, fun v q => by rw [d1] at q; cases q⟩
    · exact ⟨o2, q ▸ e2, fun v q => by rw [d2] at q; cases q⟩
  keep := fun i h h' st k => by
    obtain ⟨hz, hTI, ⟨x, y, hTO⟩, h1, h2⟩ := st
    exact ⟨k z (by simp) _ hz, k TI (by simp) _ hTI, ⟨x, y, k TO (by simp) _ hTO⟩, h1.at fun o q => k i1 (by simp) o q, h2.at fun o q => k i2 (by simp) o q⟩
  item := by
    intro X hP hw hK hc i pins s σ H E I hf st hg
    subst hP hw hK
    obtain ⟨hz, hTI, ⟨x0, y0, hTO⟩, h1, h2⟩ := st
    obtain ⟨xs, ys, x, y, hqx, hqy, hx, hy⟩ := hg
    obtain ⟨its, rv, p, _⟩ := I.tuple hqx
    obtain ⟨its2, rv2, p2, _⟩ := I.list hqy
    obtain ⟨u, hu, ru⟩ := rv.get hx
    obtain ⟨u2, hu2, ru2⟩ := rv2.get hy
    have l1 : i < its.length := (List.getElem?_eq_some_iff.mp hu).1
    have l2 : i < its2.length := (List.getElem?_eq_some_iff.mp hu2).1
    have hzl : z < s.heap.objs.size := Heap.lt_size hz
    have hh : X.A.in1.handled = none := I.ok.hd hc
    refine wpAny_pyNext_zipD2_item (sep_of D) (draws_tup hh i1 a D.l1i1 its.toArray) (Draws.list hh i2 b D.l2i2 its2.toArray) hz hTI hTO ⟨h1, p⟩ ⟨h2, p2.isList⟩ (by simpa using l1) (by simpa using l2) fun v1 v2 h' tk q1 q2 z' TO' st1 st2 hT hsz hk => ?_
    have q1 : its[i]? = some v1 := by simpa using q1
    have q2 : its2[i]? = some v2 := by simpa using q2
    rw [hu] at q1
    rw [hu2] at q2
    have q1 := Option.some.inj q1
    have q2 := Option.some.inj q2
    subst q1 q2
    refine ⟨_, rfl, wpAny_letOwnedTupleGo_zip (s := { s with heap := h', toks := tk }) z' fun h'' z'' sb => ?_⟩
    have hT2 : h''.get? s.heap.objs.size = some { cls := .type "tuple", data := .seq #[u, u2] } := (sb.2 _ (Nat.ne_of_gt hzl)).trans hT
    have new : ObjOk X.prog X.w (upd H s.heap.objs.size (.tup [x, y])) h'' s.heap.objs.size (.tup [x, y]) :=
      ⟨by show 2 ≤ sizeLine; decide, [u, u2], .cons ru (.cons ru2 .nil), ⟨_, hT2, rfl, _, rfl⟩⟩
    have off : ∀ {c : Addr}, c ∉ [z, TI, TO, i1, i2] → c ≠ z ∧ c ≠ TO ∧ c ≠ i1 ∧ c ≠ i2 := fun hb => ⟨fun q => hb (by simp [q]), fun q => hb (by simp [q]), fun q => hb (by simp [q]), fun q => hb (by simp [q])⟩
    have I1 : Inv X pins σ (upd H s.heap.objs.size (.tup [x, y])) { s with heap := h'', toks := tk } :=
      I.turnedNew (t' := tk) (ch := [z, TI, TO, i1, i2]) (fun c o hb q => let ⟨a1, a2, a3, a4⟩ := off hb; (sb.2 c a1).trans (hk c o a1 a2 a3 a4 q)) hf (Nat.le_refl _) new
    refine ⟨.ref s.heap.objs.size, _, I1, rfl, ⟨_, x, y, rfl, I.hok.fresh (Nat.le_refl _), rfl, fun l hl => by rw [I.tuple_inj hl hqx]; exact hx, fun l hl => by rw [I.list_inj hl hqy]; exact hy⟩, ⟨z'', ?_, ⟨u, u2, ?_⟩, ?_, ?_⟩, fun c hcm => ?_⟩
    · exact (sb.2 _ D.TIz).trans (hk _ _ D.TIz D.TITO D.TIi1 D.TIi2 hTI)
    · exact (sb.2 _ D.TOz).trans TO'
    · exact st1.1.at fun o q => (sb.2 _ D.i1z).trans q
    · exact st2.1.at fun o q => (sb.2 _ D.i2z).trans q
    · have hlt : c < s.heap.objs.size := by
        have e' : c = z ∨ c = TI ∨ c = TO ∨ c = i1 ∨ c = i2 := by simpa using hcm
        rcases e' with q | q | q | q | q
        · exact q ▸ hzl
        · exact q ▸ Heap.lt_size hTI
        · exact q ▸ Heap.lt_size hTO
        · obtain ⟨_, e1, _⟩ := h1
          exact q ▸ Heap.lt_size e1
        · obtain ⟨_, e2, _⟩ := h2
          exact q ▸ Heap.lt_size e2
      rw [upd_ne (Nat.ne_of_lt hlt)]
      exact (hf c hcm).1
  done := by
    intro X hP hw hK hc i pins s σ H E I hf st hg
    subst hP hw hK
    obtain ⟨hz, hTI, ⟨x0, y0, hTO⟩, h1, h2⟩ := st
    obtain ⟨xs, ys, hqx, hqy, n1, n2, hend⟩ := hg
    obtain ⟨its, rv, p, _⟩ := I.tuple hqx
    obtain ⟨its2, rv2, p2, _⟩ := I.list hqy
    have l1 := rv.length
    have l2 := rv2.length
    have hh : X.A.in1.handled = none := I.ok.hd hc
    have off : ∀ {c : Addr}, c ∉ [z, TI, TO, i1, i2] → c ≠ z ∧ c ≠ TO ∧ c ≠ i1 ∧ c ≠ i2 := fun hb => ⟨fun q => hb (by simp [q]), fun q => hb (by simp [q]), fun q => hb (by simp [q]), fun q => hb (by simp [q])⟩
    refine wpAny_pyNext_zipD2_end (sep_of D) (draws_tup hh i1 a D.l1i1 its.toArray) (Draws.list hh i2 b D.l2i2 its2.toArray) hz hTI hTO ⟨h1, p⟩ ⟨h2, p2.isList⟩ (by rw [List.size_toArray]; omega) (by rw [List.size_toArray]; omega) (by rw [List.size_toArray, List.size_toArray]; omega) fun h' tk hk => ⟨rfl, ?_⟩
    exact I.turnedL (t' := tk) (ch := [z, TI, TO, i1, i2]) (fun c o hb q => let ⟨a1, a2, a3, a4⟩ := off hb; hk c o a1 a2 a3 a4 q) hf
  self := fun A i s Q E st h => wpAny_pyIter_zip st.1 h
theorem meets_zipM (l1 l2 : Addr) (xs ys : Array Value) :
    Meets (Builtin.«zip.__new__» ⟨[.type "zip", .ref l1, .ref l2], []⟩) (fun _ R s => s.heap.IsTuple l1 xs ∧ s.heap.IsList l2 ys ∧
      ∀ h1 h2 h3 h4 h5, h1 = s.heap.push { cls := .type "tuple_iterator", data := .fields #[.ref l1, .int 0 0] } → h2 = h1.push { cls := .type "list_iterator", data := .fields #[.ref l2, .int 0 0] } →
        h3 = h2.push { cls := .type "tuple", data := .seq #[.ref s.heap.objs.size, .ref h1.objs.size] } → h4 = h3.push { cls := .type "tuple", data := .seq #[.none, .none] } →
        h5 = h4.push { cls := .type "zip", data := .fields #[.none, .bool false, .bool false, .ref h2.objs.size, .ref h3.objs.size] } → R (.ok (.ret (.ref h4.objs.size))) { s with heap := h5 }) :=
  .of_wp fun prog w A R s h => by
    obtain ⟨hp, g, d, tk, os⟩ := s
    obtain ⟨hl1, hl2, h⟩ := h
    have hsub := sub_zip
    have hL1 : Heap.IsTuple (Shared.heap ⟨hp, g, d, tk, os⟩) l1 xs := hl1
    have hL2 : Heap.IsList (Shared.heap ⟨hp.push { cls := .type "tuple_iterator", data := .fields #[.ref l1, .int 0 0] }, g, d, tk, os⟩) l2 ys := Heap.IsList.push hl2 _
    wp_walk using wpAny_pyIter_tuple hL1, wpAny_pyIter_list hL2
    exact ⟨_, rfl, h _ _ _ _ _ rfl rfl rfl rfl rfl⟩
theorem call_zipM {prog : Program} {w : World} {A : Around} {E : Value → Shared → Prop} {s : Shared} {l1 l2 : Addr} {xs ys : Array Value} {Q : Value → Shared → Prop} (hl1 : s.heap.IsTuple l1 xs) (hl2 : s.heap.IsList l2 ys)
    (h : ∀ h', IsZip h' (s.heap.objs.size + 4) (s.heap.objs.size + 2) (s.heap.objs.size + 3) .none → IsPair h' (s.heap.objs.size + 2) (.ref s.heap.objs.size) (.ref (s.heap.objs.size + 1)) →
      IsPair h' (s.heap.objs.size + 3) .none .none → h'.IsTupleIter s.heap.objs.size l1 0 → h'.IsListIter (s.heap.objs.size + 1) l2 0 →
      (∀ c o, s.heap.get? c = some o → h'.get? c = some o) → Q (.ref (s.heap.objs.size + 4)) { s with heap := h' }) :
    wpAny (model prog w) A (call (.type "zip") [.ref l1, .ref l2]) Q E s := by
  refine callType_new PySem.F.called_zip (by decide) (PySem.F.typeCall_zip_2 _ _) (PySem.F.newCall_zip_2 _ _) (fun obj => PySem.F.args_object_init_3 obj _ _) PySem.F.entry_zip_new
    (meets_zipM l1 l2 xs ys) ⟨hl1, hl2, fun h1 h2 h3 h4 h5 e1 e2 e3 e4 e5 => ?_⟩
  have z1 : h1.objs.size = s.heap.objs.size + 1 := by rw [e1, Heap.size_push]
  have z2 : h2.objs.size = s.heap.objs.size + 2 := by rw [e2, Heap.size_push, z1]
  have z3 : h3.objs.size = s.heap.objs.size + 3 := by rw [e3, Heap.size_push, z2]
  have z4 : h4.objs.size = s.heap.objs.size + 4 := by rw [e4, Heap.size_push, z3]
  have u1 : ∀ c o, s.heap.get? c = some o → h1.get? c = some o := fun c o e => by rw [e1]; exact Heap.get?_push_of_some _ e
  have u2 : ∀ c o, h1.get? c = some o → h2.get? c = some o := fun c o e => by rw [e2]; exact Heap.get?_push_of_some _ e
  have u3 : ∀ c o, h2.get? c = some o → h3.get? c = some o := fun c o e => by rw [e3]; exact Heap.get?_push_of_some _ e
  have u4 : ∀ c o, h3.get? c = some o → h4.get? c = some o := fun c o e => by rw [e4]; exact Heap.get?_push_of_some _ e
  have u5 : ∀ c o, h4.get? c = some o → h5.get? c = some o := fun c o e => by rw [e5]; exact Heap.get?_push_of_some _ e
  have g5 : h5.get? (s.heap.objs.size + 4) = some { cls := .type "zip", data := .fields #[.none, .bool false, .bool false, .ref h2.objs.size, .ref h3.objs.size] } := by rw [← z4, e5]; exact Heap.get?_push_size _ rfl
  have g4 : h5.get? (s.heap.objs.size + 3) = some { cls := .type "tuple", data := .seq #[.none, .none] } := u5 _ _ (by rw [← z3, e4]; exact Heap.get?_push_size _ rfl)
  have g3 : h5.get? (s.heap.objs.size + 2) = some { cls := .type "tuple", data := .seq #[.ref s.heap.objs.size, .ref h1.objs.size] } := u5 _ _ (u4 _ _ (by rw [← z2, e3]; exact Heap.get?_push_size _ rfl))
  have g2 : h5.get? (s.heap.objs.size + 1) = some { cls := .type "list_iterator", data := .fields #[.ref l2, .int 0 0] } := u5 _ _ (u4 _ _ (u3 _ _ (by rw [← z1, e2]; exact Heap.get?_push_size _ rfl)))
  have g1 : h5.get? s.heap.objs.size = some { cls := .type "tuple_iterator", data := .fields #[.ref l1, .int 0 0] } := u5 _ _ (u4 _ _ (u3 _ _ (u2 _ _ (by rw [e1]; exact Heap.get?_push_size _ rfl))))
  show _ ∧ _
  rw [z2, z3] at g5
  rw [z1] at g3
  rw [z4]
  exact ⟨⟨_, g5, rfl⟩, h _ g5 g3 g4 ⟨_, g1, rfl, rfl⟩ ⟨_, g2, rfl, rfl⟩ fun c o x => u5 _ _ (u4 _ _ (u3 _ _ (u2 _ _ (u1 _ _ x))))⟩
def iZipM (K : PySem.W.Frag) (ta : TA) : TI := fun σ H R => ta σ H fun vs H1 => ∃ a b xs ys, vs = [.ref a, .ref b] ∧ SqT K H1 a xs ∧ SqL K H1 b ys ∧ R (ItzM K a b) H1
theorem pi_zipM {X : Cx} {e e2 : Expr} {ta : TA} {p pos tpos : Pos} {elts : List Expr} {kk : Nat} (hg : Gl X "zip") (hm : X.mg "zip" = none) (ha : PA X [e, e2] ta)
    (hs : starEach [e, e2] X.env = (false, eval e X.env) :: starEach [e2] X.env := by rfl) (hpl : (backTo pos (starEach [e2] X.env)).any (·.1) = false := by rfl) :
    PI X (.Tuple elts kk tpos) (.Call (.Name "zip" p) [e, e2] [] pos) (iZipM X.K ta) := by
  refine ⟨fun pins s σ H R I h => ?_⟩
  refine Call_ (ld_blt I hg hm PyProof.Rows.boot_zip (PyProof.Rows.callWith_type1 (thn (ha.run pos pins s σ H _ I h) fun us s1 ⟨vs, H1, I1, r1, q1⟩ => ?_) hs hpl))
  obtain ⟨a, b, xs, ys, ex, hqx, hqy, q⟩ := q1
  subst ex
  cases r1 with
  | cons r rr =>
    cases rr with
    | cons r' rr =>
      cases rr
      cases r
      cases r'
      obtain ⟨its, rv, p1, _⟩ := I1.tuple hqx
      obtain ⟨its2, rv2, p2, _⟩ := I1.list hqy
      have la : a < s1.heap.objs.size := p1.lt
      have lb : b < s1.heap.objs.size := p2.lt
      refine call_zipM p1 p2.isList fun h' hz hTI hTO h1 h2 hk => wpAny_pyIter_zip hz ?_
      have I2 : Inv X pins σ H1 { s1 with heap := h' } := I1.kept (t' := s1.toks) hk
      refine ⟨s1.heap.objs.size + 4, [s1.heap.objs.size + 4, s1.heap.objs.size + 2, s1.heap.objs.size + 3, s1.heap.objs.size, s1.heap.objs.size + 1], _, _, H1, rfl, I2, turn_zipM (PySem.W.ktu_apart s1.heap.objs.size a b la lb), ⟨hz, hTI, ⟨_, _, hTO⟩, h1, h2⟩, fun c hcm => ?_, q⟩
      have hle : s1.heap.objs.size ≤ c := by
        have e' : c = s1.heap.objs.size + 4 ∨ c = s1.heap.objs.size + 2 ∨ c = s1.heap.objs.size + 3 ∨ c = s1.heap.objs.size ∨ c = s1.heap.objs.size + 1 := by simpa using hcm
        have m : ∀ k : Nat, s1.heap.objs.size ≤ s1.heap.objs.size + k := fun k => Nat.le_add_right _ _
        rcases e' with z | z | z | z | z
        · rw [z]; exact m 4
        · rw [z]; exact m 2
        · rw [z]; exact m 3
        · rw [z]; exact m 0
        · rw [z]; exact m 1
      exact I1.fpOk hle (I1.hok.fresh hle)
/-- a comprehension over zip of a tuple and a list of one length -/
theorem lc_zipM {K : PySem.W.Frag} {a b : Addr} {xs ys : List V} {g : TG} {tt : TT} {te : TE} {vs : List Nat} {σ : L2.St} {H1 : Hp} {D : Addr} {Qd : Hp → Prop} (hl : xs.length = ys.length) (Pv : Nat → Hp → Prop) (h0 : Pv 0 (upd H1 D (.lst []))) (hq : ∀ i H, i ≤ xs.length → Pv i H → SqT K H a xs ∧ SqL K H b ys)
    (hs : ∀ (i : Nat) (x y : V) (T : Addr) (H : Hp), xs[i]? = some x → ys[i]? = some y → Pv i H → H T = none → g (.ref T) (wipe σ vs) (upd H T (.tup [x, y])) fun σ2 H2 => wipe σ2 vs = wipe σ vs ∧ tt σ2 H2 fun b H3 =>
      if b = true then te σ2 H3 fun y H4 => ∃ acc, H4 D = some (.lst acc) ∧ acc.length < sizeLine ∧ Pv (i + 1) (upd H4 D (.lst (acc ++ [y]))) else Pv (i + 1) H3) (hd : ∀ H, Pv xs.length H → Qd H) :
    ∃ W : Nat → Nat → Hp → Prop, (∃ m, W 0 m (upd H1 D (.lst []))) ∧ ∀ i m H, W i m H →
      ((ItzM K a b).stop i H ∧ Qd H) ∨ ((ItzM K a b).go i H ∧ ∃ Nx : Hp → Prop, (∀ H', Nx H' → ∃ m', m' < m ∧ W (i + 1) m' H') ∧ ∀ x H', (ItzM K a b).yld i H x H' → g x (wipe σ vs) H' fun σ2 H2 => wipe σ2 vs = wipe σ vs ∧ tt σ2 H2 fun b H3 =>
        if b = true then te σ2 H3 fun y H4 => ∃ acc, H4 D = some (.lst acc) ∧ acc.length < sizeLine ∧ Nx (upd H4 D (.lst (acc ++ [y]))) else Nx H3) := by
  refine ⟨fun i m H => m = xs.length - i ∧ i ≤ xs.length ∧ Pv i H, ⟨xs.length, by simp, Nat.zero_le _, h0⟩, ?_⟩
  rintro i m H ⟨rfl, hi, p⟩
  obtain ⟨qx, qy⟩ := hq i H hi p
  by_cases hlt : i < xs.length
  · have hx : xs[i]? = some xs[i] := List.getElem?_eq_getElem hlt
    have hy : ys[i]? = some (ys[i]'(hl ▸ hlt)) := List.getElem?_eq_getElem (hl ▸ hlt)
    refine .inr ⟨⟨xs, ys, _, _, qx, qy, hx, hy⟩, Pv (i + 1), fun H' p' => ⟨xs.length - (i + 1), by omega, rfl, hlt, p'⟩, fun v H' y => ?_⟩
    obtain ⟨T, x, z, rfl, hT, rfl, e1, e2⟩ := y
    have e1 := e1 xs qx
    have e2 := e2 ys qy
    exact hs i x z T H e1 e2 p hT
  · have e : i = xs.length := by omega
    subst e
    exact .inl ⟨⟨xs, ys, qx, qy, Nat.le_refl _, Nat.le_of_eq hl, .inl rfl⟩, hd H p⟩
end OS

/-! xs[::-1] of a tuple. -/
namespace OS
open PySem PySem.Spec PyProof.Rows L2 HT
section
variable {prog : Program} {w : World} {A : Around} {E : Value → Shared → Prop} {s : Shared}
theorem applied_rev {sl : Addr} {n : Nat} {u : Tok} {Q : Int × Int × Nat → Shared → Prop} (hs : s.heap.IsSliceOf sl .none .none (.int (-1) u)) (h : Q ((n : Int) - 1, -1, n) s) :
    wpAny (model prog w) A (Builtin.Slice.sliceApplied (.ref sl) (pure (n : Int))) Q E s := by
  obtain ⟨os, hos, hcs, hds⟩ := id hs
  unfold Builtin.Slice.sliceApplied Builtin.Slice.sliceFields
  refine wpAny_bind (wpAny_bind (wpAny_field hos hds (x := .none) rfl (wpAny_bind (wpAny_field hos hds (x := .none) rfl (wpAny_bind (wpAny_field hos hds (x := .int (-1) u) rfl (wpAny_pure ?_)))))))
  refine wpAny_bind (slicePart_int ?_)
  show wpAny _ _ (if ((-1 : Int) == 0) = true then _ else _) _ _ s
  rw [if_neg (by decide)]
  refine wpAny_bind (slicePart_none (wpAny_bind (slicePart_none (wpAny_bind (wpAny_pure ?_)))))
  show wpAny _ _ (match Builtin.Slice.sliceAdjust none none (-1) (n : Int) with | (lo, hi) => pure (lo, (-1 : Int), Builtin.Slice.slicePlaces lo hi (-1))) _ _ s
  have e1 : Builtin.Slice.sliceAdjust none none (-1) (n : Int) = ((n : Int) - 1, -1) := by
    unfold Builtin.Slice.sliceAdjust
    simp
  rw [e1]
  show wpAny _ _ (pure ((n : Int) - 1, (-1 : Int), Builtin.Slice.slicePlaces ((n : Int) - 1) (-1) (-1))) _ _ s
  have e2 : Builtin.Slice.slicePlaces ((n : Int) - 1) (-1) (-1) = n := by
    unfold Builtin.Slice.slicePlaces
    rw [if_neg (by decide)]
    split
    · rw [show -(-1 : Int) = 1 by decide, Int.ediv_one]
      omega
    · omega
  rw [e2]
  exact wpAny_pure h
theorem pick_rev (xs : Array Value) : ((List.range xs.size).filterMap fun (m : Nat) => xs[((xs.size : Int) - 1 + (m : Int) * (-1)).toNat]?).toArray = xs.toList.reverse.toArray := by
  congr 1
  refine List.ext_getElem? fun i => ?_
  have key : ∀ l : List Nat, (∀ m ∈ l, m < xs.size) → (l.filterMap fun (m : Nat) => xs[((xs.size : Int) - 1 + (m : Int) * (-1)).toNat]?) = l.map fun m => xs.getD (xs.size - 1 - m) .none := by
    intro l
    induction l with
    | nil => exact fun _ => rfl
    | cons m r ih =>
      intro h
      have hm := h m List.mem_cons_self
      have e1 : ((xs.size : Int) - 1 + (m : Int) * (-1)).toNat = xs.size - 1 - m := by omega
      have e2 : xs[xs.size - 1 - m]? = some (xs.getD (xs.size - 1 - m) .none) := by
        rw [Array.getD_eq_getD_getElem?, Array.getElem?_eq_getElem (by omega)]
        rfl
      rw [List.filterMap_cons, e1, e2, List.map_cons, ← ih fun x hx => h x (List.mem_cons_of_mem _ hx)]
  have e := key (List.range xs.size) fun m hm => List.mem_range.mp hm
  rw [e, List.getElem?_map]
  by_cases hi : i < xs.size
  · rw [List.getElem?_range hi, List.getElem?_reverse (by rw [Array.length_toList]; exact hi), Array.length_toList, Array.getElem?_toList]
    show some (xs.getD (xs.size - 1 - i) .none) = _
    rw [Array.getD_eq_getD_getElem?, Array.getElem?_eq_getElem (by omega)]
    rfl
  · rw [List.getElem?_eq_none (by rw [List.length_range]; omega), List.getElem?_eq_none (by rw [List.length_reverse, Array.length_toList]; omega)]
    rfl
theorem getItem_tuple_rev {t sl : Addr} {items : Array Value} {u : Tok} {Q : Value → Shared → Prop} (ht : IsTup s.heap t items) (hs : s.heap.IsSliceOf sl .none .none (.int (-1) u))
    (h : Q (.ref s.heap.objs.size) { s with heap := s.heap.push { cls := .type "tuple", data := .seq items.toList.reverse.toArray } }) (hsz : items.size ≤ sizeLine) : wpAny (model prog w) A (getItem (.ref t) (.ref sl)) Q E s := by
  have htake : sizeOk (.seq items.toList.reverse.toArray) := by
    show items.toList.reverse.toArray.size ≤ sizeLine
    rw [List.size_toArray, List.length_reverse, Array.length_toList]
    exact hsz
  obtain ⟨os, hos, hcs, hds⟩ := id hs
  have hTs : s.TypeIs (.ref sl) "slice" := ⟨os, hos, hcs⟩
  unfold getItem
  try with_reducible refine wpAny_holding ?_
  first | refine wpAny_bind (wpAny_pure ?_) | skip
  refine wpAny_bind (wpAny_sequenceKey ht.typeIs (by decide) ?_)
  refine wpAny_bind (wpAny_callSpecial?_slot (name := Str.ofString "__getitem__") ht.typeIs PyProof.Rows.slot_tuple_getitem
    (wpAny_call_entry PyProof.Rows.slot_tuple_getitem ht.typeIs PyProof.Rows.entry_tuple_getitem ?_ (PyProof.Rows.args_tuple_getitem _ _)))
  show wpAny _ _ (Builtin.Tuple.tupleItemsOf (.ref t) >>= _) _ _ s
  refine wpAny_bind (tupleItemsOf_ ht ?_)
  refine wpAny_bind (wpAny_typeOf hTs ?_)
  rw [if_pos (by decide)]
  refine wpAny_bind (applied_rev hs ?_)
  have hno : ¬ ((((items.size : Int) - 1) == 0 && (-1 : Int) == 1 && items.size == items.size) = true) := by
    intro q
    rw [Bool.and_eq_true, Bool.and_eq_true] at q
    exact absurd q.1.2 (by decide)
  show wpAny _ _ (if (((items.size : Int) - 1) == 0 && (-1 : Int) == 1 && items.size == items.size) = true then _ else _) _ _ s
  rw [if_neg hno, pick_rev]
  first
    | exact wpAny_bind (m := Builtin.Tuple.tupleExact _) (wpAny_newObj_type (wpAny_pure ⟨_, rfl, wpAny_pure h⟩) htake)
    | exact wpAny_bind (m := Builtin.Tuple.tupleExact _) (wpAny_newObj_type (wpAny_bind (wpAny_pure (wpAny_pure ⟨_, rfl, wpAny_pure h⟩))) htake)
    | exact wpAny_bind (wpAny_bind (m := Builtin.Tuple.tupleExact _) (wpAny_newObj_type (wpAny_pure (wpAny_pure ⟨_, rfl, wpAny_pure h⟩)) htake))
    | exact wpAny_bind (wpAny_bind (m := Builtin.Tuple.tupleExact _) (wpAny_newObj_type (wpAny_pure ⟨_, rfl, wpAny_pure h⟩) htake))
end
section
variable {X : Cx}
def tRevT (K : PySem.W.Frag) (te : TE) : TE := fun σ H Q => te σ H fun x H1 => ∃ a xs, x = .ref a ∧ SqT K H1 a xs ∧ ∀ p, H1 p = none → Q (.ref p) (upd H1 p (.tup xs.reverse))
theorem pe_revT {e : Expr} {te : TE} {k : Nat} {p1 p2 p3 pos : Pos} (he : PE X e te) : PE X (.Subscript e (.Slice none none (some (.UnaryOp .USub (.Constant (.int 1) k p1) p2)) p3) pos) (tRevT X.K te) := by
  refine ⟨fun pins s σ H Q I h => ?_⟩
  refine Subscript_ (thn (he.run pins s σ H _ I h) fun v s1 ⟨x, H1, I1, r1, q1⟩ => ?_)
  obtain ⟨a, xs, ex, hx, q⟩ := q1
  subst ex
  cases r1
  have hst : PO X (some (.UnaryOp .USub (.Constant (.int 1) k p1) p2)) (tPart (tUn (rU fun i => .int (-i)) (tC (.int 1)))) := po_some (pe_un un_neg pe_int)
  refine wpAny_Slice (thn (po_none.run pins s1 σ H1 (fun o H2 => o = none ∧ H2 = H1) I1 ⟨rfl, rfl⟩) fun vl s2 ⟨l, H2, I2, pl, el, e2⟩ => ?_)
  subst el e2
  refine thn (po_none.run pins s2 σ H2 (fun o H3 => o = none ∧ H3 = H2) I2 ⟨rfl, rfl⟩) fun vu s3 ⟨u, H3, I3, pu, eu, e3⟩ => ?_
  subst eu e3
  refine thn (hst.run pins s3 σ H3 (fun o H4 => o = some (-1) ∧ H4 = H3) I3 ⟨1, rfl, -1, rfl, rfl, rfl⟩) fun vs s4 ⟨o, H4, I4, ps, eo, e4⟩ => ?_
  subst eo e4
  have I5 : Inv X pins σ H4 { s4 with heap := s4.heap.push { cls := .type "slice", data := .fields #[vl, vu, vs] } } := I4.kept (t' := s4.toks) fun b ob q => Heap.get?_push_of_some _ q
  obtain ⟨its, r, ht, hz⟩ := I5.tuple hx
  have hlen := r.length
  show wpAny (model X.prog X.w) X.A (subscriptTail e (.Slice none none (some (.UnaryOp .USub (.Constant (.int 1) k p1) p2)) p3) (.ref a) (.ref s4.heap.objs.size)) (EP X pins σ Q) X.xe { s4 with heap := s4.heap.push { cls := .type "slice", data := .fields #[vl, vu, vs] } }
  cases pl
  cases pu
  cases ps
  refine tail_any (ops := [.ref a, .ref s4.heap.objs.size]) ht.typeIs (PyProof.Rows.slot_tuple_getitem.lookup) ?_ (by with_unfolding_all rfl)
  refine getItem_tuple_rev ht (Heap.IsSliceOf.new _ _ _ _) ?_ (by rw [List.size_toArray]; omega)
  refine ⟨.ref _, _, I5.laid (t' := s4.toks) (o := .tup xs.reverse) (fun b ob q => Heap.get?_push_of_some _ q) (Nat.le_refl _) ?_, rfl, q _ (I5.hok.fresh (Nat.le_refl _))⟩
  exact ⟨by rw [List.length_reverse]; exact hz, _, r.reverse, _, Heap.get?_push_size _ rfl, rfl, 0, by simp⟩
end
end OS

/-! Texts of code: instructions, their lines, reading of lines (plain mathematics). -/
namespace OS
open PySem PySem.Spec PyProof.Rows L2
inductive Pt where
  | num (n : Nat) | nam (z : Str)
  deriving DecidableEq
def Pt.dt : Pt → Dt | .num n => .int (n : Nat) | .nam z => .str z
def Pt.v : Pt → V | .num n => .int (n : Nat) | .nam z => .str z
def natS (n : Nat) : Str := Str.ofString (toString ((n : Nat) : Int))
def Pt.str : Pt → Str | .num n => natS n | .nam z => z
inductive Ins where
  | pl (w : Str) (ps : List Pt) | wt (e : Str) (cs : List (Str × Str × Nat))
  deriving DecidableEq
def chD (c : Str × Str × Nat) : Dt := .tup [.str c.1, .str c.2.1, .int (c.2.2 : Nat)]
def chW (c : Str × Str × Nat) : List Str := [c.1, c.2.1, natS c.2.2]
def Ins.dt : Ins → Dt
  | .pl w ps => .tup (.str w :: ps.map Pt.dt)
  | .wt e cs => .tup [.str "wait", .str e, .tup (cs.map chD)]
def Ins.words : Ins → List Str
  | .pl w ps => w :: ps.map Pt.str
  | .wt e cs => "wait" :: e :: cs.flatMap chW
def Ins.line (a : Ins) : Str := Txt.join " " a.words
/-! ### numbers and names -/
def numOf (z : Str) : Option Nat :=
  if z = "" ∨ 10 < z.length ∨ run isDigit z.cps.toList 0 < z.length then none
  else if z = natS (NumText.digitsVal z.cps.toList) ∧ NumText.digitsVal z.cps.toList < 4294967296 then some (NumText.digitsVal z.cps.toList) else none
def nameOk (z : Str) : Bool := decide (0 < z.length) && decide (run isName z.cps.toList 0 = z.length)
theorem numOf_str {z : Str} {n : Nat} (h : numOf z = some n) : natS n = z := by
  unfold numOf at h
  split at h
  · cases h
  · split at h
    · rename_i c
      cases h
      exact c.1.symm
    · cases h
def readPt (s z : Str) : Option Pt :=
  if s = "number" ∨ s = "goal" then (numOf z).map .num
  else if s = "answer" then (if z = "yes" ∨ z = "no" then some (.nam z) else none)
  else if nameOk z = true then some (.nam z) else none
theorem readPt_str {s z : Str} {p : Pt} (h : readPt s z = some p) : p.str = z := by
  unfold readPt at h
  split at h
  · cases e : numOf z with
    | none => rw [e] at h; cases h
    | some n =>
      rw [e] at h
      cases h
      exact numOf_str e
  · split at h
    · split at h
      · cases h; rfl
      · cases h
    · split at h
      · cases h; rfl
      · cases h
/-! ### all there, or none -/
def allS {α : Type} : List (Option α) → Option (List α)
  | [] => some []
  | none :: _ => none
  | some a :: r => (allS r).map (a :: ·)
theorem allS_some {α : Type} : ∀ {l : List (Option α)} {r : List α}, allS l = some r → l = r.map some
  | [], r, h => by cases h; rfl
  | none :: _, r, h => by cases h
  | some a :: l, r, h => by
    unfold allS at h
    cases e : allS l with
    | none => rw [e] at h; cases h
    | some q =>
      rw [e] at h
      cases h
      rw [allS_some e]
      rfl
theorem allS_map {α : Type} : ∀ r : List α, allS (r.map some) = some r
  | [] => rfl
  | a :: r => by
    show (allS (r.map some)).map (a :: ·) = _
    rw [allS_map r]
    rfl
theorem allS_none {α : Type} : ∀ {l : List (Option α)}, allS l = none → none ∈ l
  | [], h => by cases h
  | none :: _, _ => List.mem_cons_self ..
  | some a :: l, h => by
    unfold allS at h
    cases e : allS l with
    | none => exact List.mem_cons_of_mem _ (allS_none e)
    | some q => rw [e] at h; cases h
theorem allS_mem {α : Type} {l : List (Option α)} (h : none ∈ l) : allS l = none := by
  cases e : allS l with
  | none => rfl
  | some r =>
    rw [allS_some e] at h
    obtain ⟨a, _, q⟩ := List.mem_map.mp h
    cases q
def readPts (ss ws : List Str) : Option (List Pt) :=
  if ws.length = ss.length then allS (List.zipWith readPt ss ws) else none
theorem readPts_str : ∀ {ss ws : List Str} {ps : List Pt}, readPts ss ws = some ps → ps.map Pt.str = ws := by
  intro ss ws ps h
  unfold readPts at h
  split at h
  · rename_i hl
    have e := allS_some h
    clear h
    induction ss generalizing ws ps with
    | nil =>
      cases ws with
      | nil =>
        cases ps with
        | nil => rfl
        | cons p r => cases e
      | cons w r => cases hl
    | cons s ss ih =>
      cases ws with
      | nil => cases hl
      | cons w ws =>
        cases ps with
        | nil => cases e
        | cons p ps =>
          rw [List.zipWith_cons_cons, List.map_cons] at e
          injection e with e1 e2
          rw [List.map_cons, readPt_str e1, ih (by simpa using hl) e2]
  · cases h
def s3 : List Str := ["name", "name", "goal"]
def read3 : List Str → Option (Str × Str × Nat)
  | [a, b, c] => if nameOk a = true ∧ nameOk b = true then (numOf c).map fun n => (a, b, n) else none
  | _ => none
def ptsOf (c : Str × Str × Nat) : List Pt := [.nam c.1, .nam c.2.1, .num c.2.2]
theorem read3_pts : ∀ ws : List Str, readPts s3 ws = (read3 ws).map ptsOf
  | [] => rfl
  | [_] => rfl
  | [_, _] => rfl
  | _ :: _ :: _ :: _ :: _ => by
    unfold readPts
    rw [if_neg (by
      show ¬ _ = 3
      simp only [List.length_cons]
      omega)]
    rfl
  | [a, b, c] => by
    have n1 : ∀ z, readPt "name" z = if nameOk z = true then some (.nam z) else none := fun z => by
      unfold readPt
      rw [if_neg (by decide +kernel), if_neg (by decide +kernel)]
    have n2 : ∀ z, readPt "goal" z = (numOf z).map .num := fun z => by
      unfold readPt
      rw [if_pos (by decide +kernel)]
    have e0 : readPts s3 [a, b, c] = allS [readPt "name" a, readPt "name" b, readPt "goal" c] := by
      unfold readPts
      exact if_pos rfl
    have e1 : read3 [a, b, c] = if nameOk a = true ∧ nameOk b = true then (numOf c).map fun n => (a, b, n) else none := rfl
    rw [e0, e1, n1, n1, n2]
    by_cases h1 : nameOk a = true
    · rw [if_pos h1]
      by_cases h2 : nameOk b = true
      · rw [if_pos h2, if_pos ⟨h1, h2⟩]
        cases numOf c <;> rfl
      · rw [if_neg h2, if_neg (show ¬ (nameOk a = true ∧ nameOk b = true) from fun q => h2 q.2)]
        rfl
    · rw [if_neg h1, if_neg (show ¬ (nameOk a = true ∧ nameOk b = true) from fun q => h1 q.1)]
      rfl
theorem read3_str {ws : List Str} {c : Str × Str × Nat} (h : read3 ws = some c) : chW c = ws := by
  have e := read3_pts ws
  rw [h] at e
  exact readPts_str (ps := ptsOf c) e
def chunk (ws : List Str) (k : Nat) : List Str := (ws.drop (1 + 3 * k)).take 3
def nch (ws : List Str) : Nat := (ws.length + 1) / 3
def readWt (ws : List Str) : Option Ins :=
  if ws.length < 4 then none else
  match allS ((List.range (nch ws)).map fun k => read3 (chunk ws k)) with
  | none => none
  | some cs => if nameOk (ws.headD "") = true then some (.wt (ws.headD "") cs) else none
theorem chunks_flat (l : List Str) : ∀ m : Nat, (List.range m).flatMap (fun k => (l.drop (3 * k)).take 3) = l.take (3 * m)
  | 0 => by simp
  | m + 1 => by
    rw [List.range_succ, List.flatMap_append, chunks_flat l m]
    simp only [List.flatMap_cons, List.flatMap_nil, List.append_nil]
    rw [show 3 * (m + 1) = 3 * m + 3 by omega, List.take_add]
theorem readWt_words {ws : List Str} {a : Ins} (h : readWt ws = some a) : a.words = ("wait" : Str) :: ws := by
  unfold readWt at h
  split at h
  · cases h
  · rename_i h4
    split at h
    · cases h
    · rename_i cs e
      split at h
      · cases h
        have e2 := allS_some e
        cases ws with
        | nil => exact absurd (by decide) h4
        | cons w r =>
          show ("wait" : Str) :: w :: cs.flatMap chW = ("wait" : Str) :: w :: r
          have e3 : cs.flatMap chW = (List.range (nch (w :: r))).flatMap (fun k => (r.drop (3 * k)).take 3) := by
            have q : ∀ (m : List Nat) (cs : List (Str × Str × Nat)), m.map (fun k => read3 (chunk (w :: r) k)) = cs.map some → cs.flatMap chW = m.flatMap (fun k => (r.drop (3 * k)).take 3) := by
              intro m
              induction m with
              | nil =>
                intro cs h
                cases cs with
                | nil => rfl
                | cons c cs => cases h
              | cons k m ih =>
                intro cs h
                cases cs with
                | nil => cases h
                | cons c cs =>
                  rw [List.map_cons, List.map_cons] at h
                  injection h with h1 h2
                  rw [List.flatMap_cons, List.flatMap_cons, ih cs h2, read3_str h1]
                  unfold chunk
                  rw [Nat.add_comm 1, List.drop_succ_cons]
            exact q _ _ e2
          rw [e3, chunks_flat, List.take_of_length_le]
          unfold nch
          simp only [List.length_cons]
          omega
      · cases h
def forms : List (Str × List Str) := [("push", ["number"]), ("load", ["name"]), ("store", ["name"]), ("add", []), ("sub", []), ("mul", []), ("less", []), ("same", []), ("jump", ["goal"]), ("zero", ["goal"]),
  ("emit", ["end", "name"]), ("wait", ["end", "choices"]), ("input", ["name"]), ("round", ["number", "goal"]), ("yes", ["number"]), ("no", ["number"]), ("test", ["answer"]), ("stop", [])]
def formOf (w : Str) : Option (List Str) := (forms.find? fun p => decide (p.1 = w)).map (·.2)
def readWs : List Str → Option Ins
  | [] => none
  | w :: r => if w = "wait" then readWt r else (formOf w).bind fun ss => (readPts ss r).map (.pl w)
def readLn (z : Str) : Option Ins := readWs (Txt.split z " ")
theorem readWs_words : ∀ {ws : List Str} {a : Ins}, readWs ws = some a → a.words = ws
  | [], a, h => by cases h
  | w :: r, a, h => by
    have h : (if w = "wait" then readWt r else (formOf w).bind fun ss => (readPts ss r).map (Ins.pl w)) = some a := h
    split at h
    · rename_i e
      rw [readWt_words h, e]
    · cases e : formOf w with
      | none => rw [e] at h; cases h
      | some ss =>
        rw [e] at h
        have h : (readPts ss r).map (Ins.pl w) = some a := h
        cases e2 : readPts ss r with
        | none => rw [e2] at h; cases h
        | some ps =>
          rw [e2] at h
          cases h
          show w :: ps.map Pt.str = _
          rw [readPts_str e2]
/-! ### split, joined again -/
theorem tl_sp : TL.tl (Str.ofString " ") = [32] := by decide +kernel
theorem tl_nl : TL.tl (Str.ofString "\n") = [10] := by decide +kernel
theorem pre1 (s c : Nat) (r : List Nat) : TL.pre [s] (c :: r) = decide (c = s) := by
  unfold TL.pre
  by_cases h : c = s
  · subst h
    rw [decide_eq_true rfl]
    exact beq_self_eq_true _
  · rw [decide_eq_false h]
    show ((c :: r).take 1 == [s]) = false
    rw [beq_eq_false_iff_ne]
    intro q
    rw [List.take_succ_cons] at q
    injection q with q _
    exact h q
theorem spl_ne (s : Nat) : ∀ (l acc : List Nat), ∃ p r, TL.spl [s] 0 acc l = p :: r
  | [], acc => ⟨_, _, TL.spl_nil ..⟩
  | c :: r, acc => by
    by_cases h : TL.pre [s] (c :: r) = true
    · exact ⟨_, _, TL.spl_hit h⟩
    · rw [TL.spl_miss (Bool.eq_false_iff.mpr h)]
      exact spl_ne s r _
theorem glue_spl (s : Nat) : ∀ (l acc : List Nat), TL.joinL [s] (TL.spl [s] 0 acc l) = acc ++ l
  | [], acc => by
    rw [TL.spl_nil, List.append_nil]
    rfl
  | c :: r, acc => by
    by_cases h : TL.pre [s] (c :: r) = true
    · rw [TL.spl_hit h]
      rw [pre1] at h
      have e : c = s := of_decide_eq_true h
      obtain ⟨p, q, e2⟩ := spl_ne s r []
      have ih := glue_spl s r []
      rw [show [s].length - 1 = 0 from rfl, e2]
      rw [e2] at ih
      show acc ++ ([s] ++ TL.joinL [s] (p :: q)) = _
      rw [ih, e]
      rfl
    · rw [TL.spl_miss (Bool.eq_false_iff.mpr h), glue_spl s r]
      simp
theorem sp_kind (z : Str) : ¬ Builtin.Str.strKind z < Builtin.Str.strKind (Str.ofString " ") := TL.kind_ok (by decide +kernel)
theorem nl_kind (z : Str) : ¬ Builtin.Str.strKind z < Builtin.Str.strKind (Str.ofString "\n") := TL.kind_ok (by decide +kernel)
theorem join_split (z : Str) : Txt.join " " (Txt.split z " ") = z := by
  refine TL.ext_tl ?_
  show TL.tl (Txt.join (Str.ofString " ") (Txt.split z (Str.ofString " "))) = _
  rw [TL.join_eq, TL.tl_join, TL.split_spl z (Str.ofString " ") (by rw [tl_sp]; simp) (sp_kind z), tl_sp, glue_spl, List.nil_append]
theorem split_ne (z : Str) : ∃ w r, Txt.split z " " = w :: r := by
  cases e : Txt.split z " " with
  | cons w r => exact ⟨w, r, rfl⟩
  | nil =>
    have h := TL.split_spl z (Str.ofString " ") (by rw [tl_sp]; simp) (sp_kind z)
    obtain ⟨p, r, e2⟩ := spl_ne 32 (TL.tl z) []
    rw [tl_sp, e2] at h
    have e : Txt.split z (Str.ofString " ") = [] := e
    rw [e] at h
    cases h
theorem readLn_line {z : Str} {a : Ins} (h : readLn z = some a) : a.line = z := by
  unfold Ins.line
  rw [readWs_words h, join_split]
theorem read_line {a : Ins} (h : readWs a.words = some a) (hs : ∀ x ∈ a.words, 32 ∉ TL.tl x) : readLn a.line = some a := by
  have hne : a.words ≠ [] := by cases a <;> exact fun q => by cases q
  unfold readLn Ins.line
  have e : Txt.split (Txt.join (Str.ofString " ") a.words) (Str.ofString " ") = a.words := TL.split_join tl_sp (by decide +kernel) hne hs
  show readWs (Txt.split (Txt.join (Str.ofString " ") a.words) (Str.ofString " ")) = _
  rw [e, h]
/-! ### lengths -/
theorem joinL_len (s : Nat) : ∀ (l : List (List Nat)), (l.map (·.length)).sum + l.length ≤ (TL.joinL [s] l).length + 1
  | [] => by simp [TL.joinL]
  | [p] => by simp [TL.joinL]
  | p :: q :: r => by
    have ih := joinL_len s (q :: r)
    show ((p :: q :: r).map (·.length)).sum + (p :: q :: r).length ≤ (p ++ ([s] ++ TL.joinL [s] (q :: r))).length + 1
    rw [List.length_append, List.length_append, List.map_cons, List.sum_cons, List.length_cons (as := q :: r)]
    simp only [List.length_singleton]
    omega
/-- signs and words of a line -/
def Ins.size (a : Ins) : Nat := (a.words.map (·.length)).sum + a.words.length
theorem size_le (a : Ins) : a.size ≤ a.line.length + 1 := by
  unfold Ins.size Ins.line
  have e := TL.tl_join (Str.ofString " ") a.words
  have h := joinL_len 32 (a.words.map TL.tl)
  rw [List.map_map, List.length_map] at h
  have e2 : (Txt.join (Str.ofString " ") a.words).length = (TL.joinL [32] (a.words.map TL.tl)).length := by
    rw [TL.len_tl, TL.join_eq, e, tl_sp]
  show _ ≤ (Txt.join (Str.ofString " ") a.words).length + 1
  rw [e2]
  have e3 : (a.words.map (·.length)) = a.words.map ((fun x => x.length) ∘ TL.tl) := List.map_congr_left fun x _ => TL.len_tl x
  rw [e3]
  exact h
theorem line_len (a : Ins) : a.line.length ≤ a.size := by
  have h := StrLaws.join_length_le (Str.ofString " ") a.words
  unfold Ins.size Ins.line
  show (Txt.join (Str.ofString " ") a.words).length ≤ _
  rw [TL.join_eq]
  have e : (Str.ofString " ").length = 1 := by decide +kernel
  rw [e, Nat.mul_one] at h
  exact h
end OS

/-! Heights and circles of a graph (plain mathematics). -/
namespace OS
section
variable (n : Nat) (nx : Nat → List Nat) (hb : Nat → Int → Int)
/-- a place is reached with a height of the pile -/
inductive Rch : Nat → Int → Prop
  | z : Rch 0 0
  | s {a g : Nat} {h : Int} : Rch a h → a < n → h ≤ 40 → 0 ≤ hb a h → g ∈ nx a → Rch g (hb a h)
def OKh : Prop := ∀ a h, Rch n nx hb a h → a < n ∧ h ≤ 40 ∧ 0 ≤ hb a h ∧ ∀ h2, Rch n nx hb a h2 → h2 = h
/-- a is done right in D -/
def Done (D : List (Nat × Int)) (a : Nat) (h : Int) : Prop := 0 ≤ hb a h ∧ h ≤ 40 ∧ ∀ g ∈ nx a, g < n ∧ (g, hb a h) ∈ D
structure HInv (D : List (Nat × Int)) (W : List Nat) : Prop where
  nd : (D.map (·.1)).Nodup
  z : ((0 : Nat), (0 : Int)) ∈ D
  r : ∀ p ∈ D, Rch n nx hb p.1 p.2 ∧ p.1 < n
  ws : ∀ a ∈ W, a ∈ D.map (·.1)
  wn : W.Nodup
  d : ∀ p ∈ D, p.1 ∉ W → Done n nx hb D p.1 p.2
end
section
variable {n : Nat} {nx : Nat → List Nat} {hb : Nat → Int → Int} {D : List (Nat × Int)} {W : List Nat}
theorem nd_val : ∀ {D : List (Nat × Int)} {a : Nat} {h k : Int}, (D.map (·.1)).Nodup → (a, h) ∈ D → (a, k) ∈ D → h = k
  | [], _, _, _, _, h, _ => by cases h
  | p :: D, a, h, k, nd, m1, m2 => by
    rw [List.map_cons, List.nodup_cons] at nd
    rcases List.mem_cons.mp m1 with e1 | m1
    · rcases List.mem_cons.mp m2 with e2 | m2
      · have := e1.trans e2.symm
        injection this
      · exact absurd (List.mem_map.mpr ⟨_, m2, by rw [← e1]⟩) nd.1
    · rcases List.mem_cons.mp m2 with e2 | m2
      · exact absurd (List.mem_map.mpr ⟨_, m1, by rw [← e2]⟩) nd.1
      · exact nd_val nd.2 m1 m2
theorem HInv.start (h : 0 < n) : HInv n nx hb [(0, 0)] [0] where
  nd := by simp
  z := by simp
  r := fun p hp => by
    rw [List.mem_singleton.mp hp]
    exact ⟨.z, h⟩
  ws := fun a ha => by
    rw [List.mem_singleton.mp ha]
    simp
  wn := by simp
  d := fun p hp hn => by
    rw [List.mem_singleton.mp hp] at hn
    simp at hn
/-- all done: each reached place stands in D -/
theorem HInv.closed (I : HInv n nx hb D []) : ∀ {a : Nat} {h : Int}, Rch n nx hb a h → (a, h) ∈ D := by
  intro a h r
  induction r with
  | z => exact I.z
  | s _ _ _ _ hg ih => exact ((I.d _ ih (by simp)).2.2 _ hg).2
theorem HInv.ok (I : HInv n nx hb D []) : OKh n nx hb := fun a h r => by
  have m := I.closed r
  have d := I.d _ m (by simp)
  exact ⟨(I.r _ m).2, d.2.1, d.1, fun h2 r2 => nd_val I.nd (I.closed r2) m⟩
theorem HInv.keys (I : HInv n nx hb D []) (a : Nat) : a ∈ D.map (·.1) ↔ ∃ h, Rch n nx hb a h := by
  constructor
  · intro h
    obtain ⟨p, hp, rfl⟩ := List.mem_map.mp h
    exact ⟨_, (I.r p hp).1⟩
  · rintro ⟨h, r⟩
    exact List.mem_map.mpr ⟨_, I.closed r, rfl⟩
/-- one place is taken off the pile (the last one) and its goals are gone through; G: those that are done -/
structure HMid (n : Nat) (nx : Nat → List Nat) (hb : Nat → Int → Int) (a : Nat) (h : Int) (G : List Nat) (D : List (Nat × Int)) (W : List Nat) : Prop where
  nd : (D.map (·.1)).Nodup
  z : ((0 : Nat), (0 : Int)) ∈ D
  r : ∀ p ∈ D, Rch n nx hb p.1 p.2 ∧ p.1 < n
  ws : ∀ a ∈ W, a ∈ D.map (·.1)
  wn : W.Nodup
  d : ∀ p ∈ D, p.1 ∉ W → p.1 ≠ a → Done n nx hb D p.1 p.2
  m : (a, h) ∈ D
  aw : a ∉ W
  g : ∀ g ∈ G, g < n ∧ (g, hb a h) ∈ D
theorem HInv.mid {a : Nat} {h : Int} (I : HInv n nx hb D (W ++ [a])) (m : (a, h) ∈ D) : HMid n nx hb a h [] D W where
  nd := I.nd
  z := I.z
  r := I.r
  ws := fun b hb' => I.ws b (List.mem_append_left _ hb')
  wn := (List.nodup_append.mp I.wn).1
  d := fun p hp hn hne => I.d p hp fun q => by
    rcases List.mem_append.mp q with q | q
    · exact hn q
    · exact hne (List.mem_singleton.mp q)
  m := m
  aw := fun q => by
    have := (List.nodup_append.mp I.wn).2.2
    exact this a q a (List.mem_singleton.mpr rfl) rfl
  g := fun g hg => by cases hg
theorem HMid.rch {a : Nat} {h : Int} {G : List Nat} (I : HMid n nx hb a h G D W) (h0 : 0 ≤ hb a h) (h1 : h ≤ 40) {g : Nat} (hg : g ∈ nx a) : Rch n nx hb g (hb a h) :=
  .s (I.r _ I.m).1 (I.r _ I.m).2 h1 h0 hg
theorem mem_keys {g : Nat} {D : List (Nat × Int)} (h : g ∈ D.map (·.1)) : ∃ k, (g, k) ∈ D := by
  obtain ⟨p, hp, rfl⟩ := List.mem_map.mp h
  exact ⟨p.2, hp⟩
/-- a goal that stands there with this height -/
theorem HMid.old {a : Nat} {h : Int} {G : List Nat} (I : HMid n nx hb a h G D W) {g : Nat} (hn : g < n) (hm : (g, hb a h) ∈ D) : HMid n nx hb a h (G ++ [g]) D W :=
  ⟨I.nd, I.z, I.r, I.ws, I.wn, I.d, I.m, I.aw, fun x hx => by
    rcases List.mem_append.mp hx with hx | hx
    · exact I.g x hx
    · rw [List.mem_singleton.mp hx]
      exact ⟨hn, hm⟩⟩
/-- a new goal -/
theorem HMid.new {a : Nat} {h : Int} {G : List Nat} (I : HMid n nx hb a h G D W) (h0 : 0 ≤ hb a h) (h1 : h ≤ 40) {g : Nat} (hn : g < n) (hg : g ∈ nx a) (hm : g ∉ D.map (·.1)) : HMid n nx hb a h (G ++ [g]) (D ++ [(g, hb a h)]) (W ++ [g]) where
  nd := by
    rw [List.map_append, List.nodup_append]
    refine ⟨I.nd, by simp, fun x hx y hy => ?_⟩
    rintro rfl
    rw [List.mem_singleton.mp hy] at hx
    exact hm hx
  z := List.mem_append_left _ I.z
  r := fun p hp => by
    rcases List.mem_append.mp hp with hp | hp
    · exact I.r p hp
    · rw [List.mem_singleton.mp hp]
      exact ⟨I.rch h0 h1 hg, hn⟩
  ws := fun b hb' => by
    rw [List.map_append]
    rcases List.mem_append.mp hb' with hb' | hb'
    · exact List.mem_append_left _ (I.ws b hb')
    · exact List.mem_append_right _ hb'
  wn := by
    rw [List.nodup_append]
    refine ⟨I.wn, by simp, fun x hx y hy => ?_⟩
    rintro rfl
    rw [List.mem_singleton.mp hy] at hx
    exact hm (I.ws _ hx)
  d := fun p hp hnw hne => by
    rcases List.mem_append.mp hp with hp | hp
    · have d := I.d p hp (fun q => hnw (List.mem_append_left _ q)) hne
      exact ⟨d.1, d.2.1, fun x hx => ⟨(d.2.2 x hx).1, List.mem_append_left _ (d.2.2 x hx).2⟩⟩
    · rw [List.mem_singleton.mp hp] at hnw
      exact absurd (List.mem_append_right _ (List.mem_singleton.mpr rfl)) hnw
  m := List.mem_append_left _ I.m
  aw := fun q => by
    rcases List.mem_append.mp q with q | q
    · exact I.aw q
    · have e := List.mem_singleton.mp q
      exact hm (by rw [← e]; exact List.mem_map.mpr ⟨_, I.m, rfl⟩)
  g := fun x hx => by
    rcases List.mem_append.mp hx with hx | hx
    · exact ⟨(I.g x hx).1, List.mem_append_left _ (I.g x hx).2⟩
    · rw [List.mem_singleton.mp hx]
      exact ⟨hn, List.mem_append_right _ (List.mem_singleton.mpr rfl)⟩
theorem HMid.done {a : Nat} {h : Int} {G : List Nat} (I : HMid n nx hb a h G D W) (h0 : 0 ≤ hb a h) (h1 : h ≤ 40) (hG : ∀ g ∈ nx a, g ∈ G) : HInv n nx hb D W where
  nd := I.nd
  z := I.z
  r := I.r
  ws := I.ws
  wn := I.wn
  d := fun p hp hnw => by
    by_cases e : p.1 = a
    · have e2 : p = (a, h) := by
        obtain ⟨b, k⟩ := p
        have e : b = a := e
        subst e
        rw [nd_val I.nd hp I.m]
      rw [e2]
      exact ⟨h0, h1, fun g hg => I.g g (hG g hg)⟩
    · exact I.d p hp hnw e
/-- why it fails -/
theorem HMid.bad1 {a : Nat} {h : Int} {G : List Nat} (I : HMid n nx hb a h G D W) (hf : hb a h < 0 ∨ 40 < h) : ¬ OKh n nx hb := fun o => by
  have := o a h (I.r _ I.m).1
  omega
theorem HMid.bad2 {a : Nat} {h : Int} {G : List Nat} (I : HMid n nx hb a h G D W) (h0 : 0 ≤ hb a h) (h1 : h ≤ 40) {g : Nat} (hg : g ∈ nx a) (hf : n ≤ g) : ¬ OKh n nx hb := fun o => by
  have := (o _ _ (I.rch h0 h1 hg)).1
  omega
theorem HMid.bad3 {a : Nat} {h : Int} {G : List Nat} (I : HMid n nx hb a h G D W) (h0 : 0 ≤ hb a h) (h1 : h ≤ 40) {g : Nat} (hg : g ∈ nx a) {k : Int} (hm : (g, k) ∈ D) (hf : k ≠ hb a h) : ¬ OKh n nx hb := fun o =>
  hf ((o _ _ (I.rch h0 h1 hg)).2.2.2 _ (I.r _ hm).1)
theorem HMid.bad4 {a : Nat} {h : Int} {G : List Nat} (I : HMid n nx hb a h G D W) (h0 : 0 ≤ hb a h) (h1 : h ≤ 40) {g : Nat} (hg : g ∈ nx a) (hf : 40 < hb a h) : ¬ OKh n nx hb := fun o => by
  have := (o _ _ (I.rch h0 h1 hg)).2.1
  omega
theorem keys_le {n : Nat} {D : List (Nat × Int)} (nd : (D.map (·.1)).Nodup) (h : ∀ p ∈ D, p.1 < n) : D.length ≤ n := by
  have q : ∀ (l : List Nat), l.Nodup → (∀ x ∈ l, x < n) → l.length ≤ n := by
    intro l hl hx
    have := (List.nodup_range (n := n))
    have s : l ⊆ List.range n := fun x h => List.mem_range.mpr (hx x h)
    have := List.Nodup.length_le_of_subset hl s
    rwa [List.length_range] at this
  have := q _ nd fun x hx => by
    obtain ⟨p, hp, rfl⟩ := List.mem_map.mp hx
    exact h p hp
  rwa [List.length_map] at this
end
/-! ### circles -/
/-- one step or more -/
inductive Pth (q : Nat → List Nat) : Nat → Nat → Prop
  | one {a b : Nat} : b ∈ q a → Pth q a b
  | cons {a b c : Nat} : b ∈ q a → Pth q b c → Pth q a c
theorem Pth.snoc {q : Nat → List Nat} {a b c : Nat} (h : Pth q a b) (hc : c ∈ q b) : Pth q a c := by
  induction h with
  | one h => exact .cons h (.one hc)
  | cons h _ ih => exact .cons h (ih hc)
theorem Pth.trans {q : Nat → List Nat} {a b c : Nat} (h : Pth q a b) (h2 : Pth q b c) : Pth q a c := by
  induction h with
  | one h => exact .cons h h2
  | cons h _ ih => exact .cons h (ih h2)
theorem Pth.last {q : Nat → List Nat} {a c : Nat} (h : Pth q a c) : ∃ b, (b = a ∨ Pth q a b) ∧ c ∈ q b := by
  induction h with
  | one h => exact ⟨_, .inl rfl, h⟩
  | cons h _ ih =>
    obtain ⟨b, e, hb⟩ := ih
    rcases e with rfl | e
    · exact ⟨_, .inr (.one h), hb⟩
    · exact ⟨_, .inr (.cons h e), hb⟩
def Circ (R : List Nat) (q : Nat → List Nat) : Prop := ∃ a ∈ R, Pth q a a
/-- processed places: each one's places before it are processed ahead of it -/
def Topo (R : List Nat) (q : Nat → List Nat) (P : List Nat) : Prop := ∀ (j : Nat) (b : Nat), P[j]? = some b → ∀ a ∈ R, b ∈ q a → ∃ i : Nat, i < j ∧ P[i]? = some a
theorem topo_path {R : List Nat} {q : Nat → List Nat} {P : List Nat} (hq : ∀ a ∈ R, ∀ b ∈ q a, b ∈ R) (nd : P.Nodup) (t : Topo R q P) {a b : Nat} (h : Pth q a b) : a ∈ R → ∀ (j : Nat), P[j]? = some b → ∃ i : Nat, i < j ∧ P[i]? = some a := by
  induction h with
  | one hb => exact fun ha j hj => t j _ hj _ ha hb
  | cons hb _ ih =>
    intro ha j hj
    obtain ⟨i, hi, e⟩ := ih (hq _ ha _ hb) j hj
    obtain ⟨k, hk, e2⟩ := t i _ e _ ha hb
    exact ⟨k, by omega, e2⟩
theorem topo_none {R : List Nat} {q : Nat → List Nat} {P : List Nat} (hq : ∀ a ∈ R, ∀ b ∈ q a, b ∈ R) (nd : P.Nodup) (t : Topo R q P) (hall : ∀ a ∈ R, a ∈ P) : ¬ Circ R q := by
  rintro ⟨a, ha, p⟩
  obtain ⟨j, hj⟩ := List.mem_iff_getElem?.mp (hall a ha)
  obtain ⟨i, hi, e⟩ := topo_path hq nd t p ha j hj
  have h1 := (List.getElem?_eq_some_iff.mp hj)
  have h2 := (List.getElem?_eq_some_iff.mp e)
  have := (List.getElem_inj (h₀ := h2.1) (h₁ := h1.1) nd).mp (h2.2.trans h1.2.symm)
  omega
/-- going backwards for ever within finitely many places comes back -/
theorem back_circ {q : Nat → List Nat} {S : List Nat} (f : Nat → Nat) (hf : ∀ x ∈ S, f x ∈ S ∧ x ∈ q (f x)) {x : Nat} (hx : x ∈ S) : ∃ a ∈ S, Pth q a a := by
  let it : Nat → Nat := fun k => Nat.rec x (fun _ y => f y) k
  have hS : ∀ k, it k ∈ S := fun k => by
    induction k with
    | zero => exact hx
    | succ k ih => exact (hf _ ih).1
  have hp : ∀ k d, Pth q (it (k + d + 1)) (it k) := fun k d => by
    induction d with
    | zero => exact .one (hf _ (hS k)).2
    | succ d ih => exact .cons (hf _ (hS (k + d + 1))).2 ih
  have hnd : ¬ ((List.range (S.length + 1)).map it).Nodup := fun nd => by
    have s : (List.range (S.length + 1)).map it ⊆ S := fun y hy => by
      obtain ⟨k, _, rfl⟩ := List.mem_map.mp hy
      exact hS k
    have := List.Nodup.length_le_of_subset nd s
    rw [List.length_map, List.length_range] at this
    omega
  have : ∃ i j, i < j ∧ it i = it j := by
    refine Classical.byContradiction fun no => hnd ?_
    show List.Pairwise (· ≠ ·) _
    rw [List.pairwise_iff_getElem]
    intro i j hi hj hij e
    rw [List.getElem_map, List.getElem_map, List.getElem_range, List.getElem_range] at e
    exact no ⟨i, j, hij, e⟩
  obtain ⟨i, j, hij, e⟩ := this
  refine ⟨it i, hS i, ?_⟩
  have := hp i (j - i - 1)
  rw [show i + (j - i - 1) + 1 = j by omega, ← e] at this
  exact this
end OS

/-! What is left of a graph when places without any before them are taken out, again and again (plain mathematics). -/
namespace OS
/-- steps to g from places that are not taken out -/
def cnt (q : Nat → List Nat) (g : Nat) : List Nat → List Nat → Nat
  | [], _ => 0
  | a :: R, P => (if a ∈ P then 0 else (q a).count g) + cnt q g R P
section
variable {q : Nat → List Nat} {R P W rem : List Nat} {bf : Nat → Int} {x : Nat}
theorem cnt_pos {g : Nat} : ∀ {R P : List Nat}, cnt q g R P ≠ 0 → ∃ a ∈ R, a ∉ P ∧ g ∈ q a
  | [], P, h => absurd rfl h
  | a :: R, P, h => by
    unfold cnt at h
    by_cases c : a ∈ P
    · rw [if_pos c, Nat.zero_add] at h
      obtain ⟨b, hb, h2⟩ := cnt_pos h
      exact ⟨b, List.mem_cons_of_mem _ hb, h2⟩
    · rw [if_neg c] at h
      by_cases e : (q a).count g = 0
      · rw [e, Nat.zero_add] at h
        obtain ⟨b, hb, h2⟩ := cnt_pos h
        exact ⟨b, List.mem_cons_of_mem _ hb, h2⟩
      · exact ⟨a, List.mem_cons_self .., c, List.count_pos_iff.mp (Nat.pos_of_ne_zero e)⟩
theorem cnt_zero {g : Nat} : ∀ {R P : List Nat}, cnt q g R P = 0 → ∀ a ∈ R, g ∈ q a → a ∈ P
  | [], P, _, a, h, _ => by cases h
  | b :: R, P, h, a, ha, hg => by
    unfold cnt at h
    rcases List.mem_cons.mp ha with rfl | ha
    · by_cases c : a ∈ P
      · exact c
      · rw [if_neg c] at h
        have := List.count_pos_iff.mpr hg
        omega
    · exact cnt_zero (by omega) a ha hg
theorem cnt_off {g : Nat} : ∀ {R P : List Nat}, x ∉ R → cnt q g R (P ++ [x]) = cnt q g R P
  | [], _, _ => rfl
  | a :: R, P, h => by
    unfold cnt
    rw [cnt_off fun z => h (List.mem_cons_of_mem _ z)]
    have e : a ≠ x := fun z => h (by rw [z]; exact List.mem_cons_self ..)
    by_cases c : a ∈ P
    · rw [if_pos c, if_pos (List.mem_append_left _ c)]
    · rw [if_neg c, if_neg (fun z => by
        rcases List.mem_append.mp z with z | z
        · exact c z
        · exact e (List.mem_singleton.mp z))]
theorem cnt_take {g : Nat} : ∀ {R P : List Nat}, R.Nodup → x ∈ R → x ∉ P → cnt q g R P = cnt q g R (P ++ [x]) + (q x).count g
  | [], _, _, h, _ => by cases h
  | a :: R, P, nd, h, hp => by
    rw [List.nodup_cons] at nd
    unfold cnt
    by_cases e : a = x
    · subst e
      rw [if_neg hp, if_pos (List.mem_append_right _ (List.mem_singleton.mpr rfl)), cnt_off nd.1]
      omega
    · have hx : x ∈ R := by
        rcases List.mem_cons.mp h with h | h
        · exact absurd h.symm e
        · exact h
      have ih := cnt_take (g := g) nd.2 hx hp
      by_cases c : a ∈ P
      · rw [if_pos c, if_pos (List.mem_append_left _ c), ih]
        omega
      · rw [if_neg c, if_neg (fun z => by
          rcases List.mem_append.mp z with z | z
          · exact c z
          · exact e (List.mem_singleton.mp z)), ih]
        omega
theorem cnt_nil {g : Nat} : ∀ R : List Nat, cnt q g R [] = ((R.map q).flatten).count g
  | [] => rfl
  | a :: R => by
    unfold cnt
    rw [if_neg (by simp), cnt_nil R, List.map_cons, List.flatten_cons, List.count_append]
structure KInv (R : List Nat) (q : Nat → List Nat) (P W : List Nat) (bf : Nat → Int) : Prop where
  nd : (P ++ W).Nodup
  sub : ∀ x ∈ P ++ W, x ∈ R
  t : Topo R q P
  b : ∀ g ∈ R, bf g = (cnt q g R P : Nat)
  w : ∀ g ∈ R, bf g = 0 ↔ g ∈ P ∨ g ∈ W
/-- x is being taken out; rem: its steps that are still to be counted off -/
structure KMid (R : List Nat) (q : Nat → List Nat) (P : List Nat) (x : Nat) (rem W : List Nat) (bf : Nat → Int) : Prop where
  nd : ((P ++ [x]) ++ W).Nodup
  sub : ∀ y ∈ (P ++ [x]) ++ W, y ∈ R
  t : Topo R q (P ++ [x])
  b : ∀ g ∈ R, bf g = (cnt q g R (P ++ [x]) + rem.count g : Nat)
  w : ∀ g ∈ R, bf g = 0 ↔ g ∈ P ++ [x] ∨ g ∈ W
theorem KInv.start (nd : R.Nodup) (h : ∀ g ∈ R, bf g = (((R.map q).flatten).count g : Nat)) : KInv R q [] (R.filter fun g => decide (bf g = 0)) bf where
  nd := nd.filter _
  sub := fun x hx => (List.mem_filter.mp hx).1
  t := fun j b hj => by simp at hj
  b := fun g hg => by rw [h g hg, cnt_nil]
  w := fun g hg => by
    constructor
    · intro e
      exact .inr (List.mem_filter.mpr ⟨hg, decide_eq_true e⟩)
    · rintro (e | e)
      · cases e
      · exact of_decide_eq_true (List.mem_filter.mp e).2
theorem KInv.mid (I : KInv R q P (W ++ [x]) bf) (ndR : R.Nodup) : KMid R q P x (q x) W bf := by
  have hx : x ∈ R := I.sub x (by simp)
  have nd := I.nd
  have perm : ((P ++ [x]) ++ W).Perm (P ++ (W ++ [x])) := by
    rw [List.append_assoc]
    exact List.Perm.append_left _ List.perm_append_comm
  have hxP : x ∉ P := fun hp => (List.nodup_append.mp nd).2.2 x hp x (by simp) rfl
  have b0 : bf x = 0 := (I.w x hx).mpr (.inr (by simp))
  have c0 : cnt q x R P = 0 := by
    have := I.b x hx
    omega
  refine ⟨perm.nodup_iff.mpr nd, fun y hy => I.sub y (perm.mem_iff.mp hy), fun j b hj a ha hab => ?_, fun g hg => ?_, fun g hg => ?_⟩
  · by_cases hl : j < P.length
    · rw [List.getElem?_append_left hl] at hj
      obtain ⟨i, hi, e⟩ := I.t j b hj a ha hab
      exact ⟨i, hi, by rw [List.getElem?_append_left (by omega)]; exact e⟩
    · have h1 := (List.getElem?_eq_some_iff.mp hj).1
      rw [List.length_append, List.length_singleton] at h1
      have e : j = P.length := by omega
      subst e
      rw [List.getElem?_append_right (Nat.le_refl _), Nat.sub_self] at hj
      have e2 : x = b := Option.some.inj hj
      subst e2
      obtain ⟨i, hi⟩ := List.mem_iff_getElem?.mp (cnt_zero c0 a ha hab)
      have h2 := (List.getElem?_eq_some_iff.mp hi).1
      exact ⟨i, h2, by rw [List.getElem?_append_left h2]; exact hi⟩
  · rw [I.b g hg, cnt_take ndR hx hxP]
  · rw [I.w g hg]
    simp only [List.mem_append, List.mem_singleton]
    constructor
    · rintro (h | h | h)
      · exact .inl (.inl h)
      · exact .inr h
      · exact .inl (.inr h)
    · rintro ((h | h) | h)
      · exact .inl h
      · exact .inr (.inr h)
      · exact .inr (.inl h)
/-- a step is counted off -/
theorem KMid.pos {y : Nat} (I : KMid R q P x (y :: rem) W bf) (hy : y ∈ R) : 1 ≤ bf y ∧ y ∉ P ++ [x] ∧ y ∉ W := by
  have b := I.b y hy
  rw [List.count_cons_self] at b
  have n0 : ¬ bf y = 0 := by omega
  exact ⟨by omega, fun h => n0 ((I.w y hy).mpr (.inl h)), fun h => n0 ((I.w y hy).mpr (.inr h))⟩
def dec1 (bf : Nat → Int) (y : Nat) : Nat → Int := fun g => if g = y then bf y - 1 else bf g
theorem KMid.next {y : Nat} (I : KMid R q P x (y :: rem) W bf) (hy : y ∈ R) (h : bf y - 1 ≠ 0) : KMid R q P x rem W (dec1 bf y) := by
  obtain ⟨p1, p2, p3⟩ := I.pos hy
  refine ⟨I.nd, I.sub, I.t, fun g hg => ?_, fun g hg => ?_⟩
  · have b := I.b g hg
    unfold dec1
    by_cases e : g = y
    · subst e
      rw [if_pos rfl]
      rw [List.count_cons_self] at b
      omega
    · rw [if_neg e, b, List.count_cons_of_ne (fun z => e z.symm)]
  · unfold dec1
    by_cases e : g = y
    · subst e
      rw [if_pos rfl]
      exact ⟨fun z => absurd z h, fun z => z.elim (fun z => absurd z p2) fun z => absurd z p3⟩
    · rw [if_neg e]
      exact I.w g hg
theorem KMid.take {y : Nat} (I : KMid R q P x (y :: rem) W bf) (hy : y ∈ R) (h : bf y - 1 = 0) : KMid R q P x rem (W ++ [y]) (dec1 bf y) := by
  obtain ⟨p1, p2, p3⟩ := I.pos hy
  refine ⟨?_, ?_, I.t, fun g hg => ?_, fun g hg => ?_⟩
  · rw [← List.append_assoc, List.nodup_append]
    refine ⟨I.nd, by simp, fun a ha b hb => ?_⟩
    rintro rfl
    rw [List.mem_singleton.mp hb] at ha
    rcases List.mem_append.mp ha with ha | ha
    · exact p2 ha
    · exact p3 ha
  · intro a ha
    rw [← List.append_assoc] at ha
    rcases List.mem_append.mp ha with ha | ha
    · exact I.sub a ha
    · rw [List.mem_singleton.mp ha]
      exact hy
  · have b := I.b g hg
    unfold dec1
    by_cases e : g = y
    · subst e
      rw [if_pos rfl]
      rw [List.count_cons_self] at b
      omega
    · rw [if_neg e, b, List.count_cons_of_ne (fun z => e z.symm)]
  · unfold dec1
    by_cases e : g = y
    · subst e
      rw [if_pos rfl]
      exact ⟨fun _ => .inr (by simp), fun _ => h⟩
    · rw [if_neg e, I.w g hg]
      simp only [List.mem_append, List.mem_singleton]
      constructor
      · rintro (z | z)
        · exact .inl z
        · exact .inr (.inl z)
      · rintro (z | z | z)
        · exact .inl z
        · exact .inr z
        · exact absurd z e
theorem KMid.done (I : KMid R q P x [] W bf) : KInv R q (P ++ [x]) W bf :=
  ⟨I.nd, I.sub, I.t, fun g hg => by rw [I.b g hg]; rfl, I.w⟩
theorem sub_len (nd : P.Nodup) (hs : ∀ x ∈ P, x ∈ R) : P.length ≤ R.length := List.Nodup.length_le_of_subset nd hs
theorem KInv.len (I : KInv R q P W bf) : P.length + W.length ≤ R.length := by
  have := sub_len I.nd I.sub
  rwa [List.length_append] at this
/-- what is left over at the end is a circle, or nothing is -/
theorem KInv.circ (I : KInv R q P [] bf) (ndR : R.Nodup) (hq : ∀ a ∈ R, ∀ b ∈ q a, b ∈ R) : Circ R q ↔ P.length < R.length := by
  have ndP : P.Nodup := (List.nodup_append.mp I.nd).1
  have hsub : ∀ x ∈ P, x ∈ R := fun x hx => I.sub x (List.mem_append_left _ hx)
  constructor
  · intro c
    refine Nat.lt_of_not_le fun hle => topo_none hq ndP I.t (fun a ha => ?_) c
    refine Classical.byContradiction fun hn => ?_
    have := sub_len (P := a :: P) (R := R) (List.nodup_cons.mpr ⟨hn, ndP⟩) fun y hy => by
      rcases List.mem_cons.mp hy with rfl | hy
      · exact ha
      · exact hsub y hy
    rw [List.length_cons] at this
    omega
  · intro hlt
    have pre : ∀ g, g ∈ R → g ∉ P → ∃ a, a ∈ R ∧ a ∉ P ∧ g ∈ q a := fun g hg hn => by
      have n0 : ¬ bf g = 0 := fun z => by
        rcases (I.w g hg).mp z with z | z
        · exact hn z
        · cases z
      have b := I.b g hg
      obtain ⟨a, h1, h2, h3⟩ := cnt_pos (q := q) (g := g) (R := R) (P := P) (by omega)
      exact ⟨a, h1, h2, h3⟩
    have ex : ∃ g ∈ R, g ∉ P := by
      refine Classical.byContradiction fun no => ?_
      have := sub_len (P := R) (R := P) ndR fun x hx => Classical.byContradiction fun hn => no ⟨x, hx, hn⟩
      omega
    obtain ⟨g, hg, hn⟩ := ex
    have ch : ∃ f : Nat → Nat, ∀ g, g ∈ R → g ∉ P → f g ∈ R ∧ f g ∉ P ∧ g ∈ q (f g) := by
      refine ⟨fun g => if h : g ∈ R ∧ g ∉ P then Classical.choose (pre g h.1 h.2) else 0, fun g h1 h2 => ?_⟩
      have hh : g ∈ R ∧ g ∉ P := ⟨h1, h2⟩
      simp only [dif_pos hh]
      exact Classical.choose_spec (pre g h1 h2)
    obtain ⟨f, hf⟩ := ch
    obtain ⟨a, ha, p⟩ := back_circ (q := q) (S := R.filter fun g => decide (g ∉ P)) f (fun y hy => by
      obtain ⟨h1, h2⟩ := List.mem_filter.mp hy
      obtain ⟨f1, f2, f3⟩ := hf y h1 (of_decide_eq_true h2)
      exact ⟨List.mem_filter.mpr ⟨f1, decide_eq_true f2⟩, f3⟩) (x := g) (List.mem_filter.mpr ⟨hg, decide_eq_true hn⟩)
    exact ⟨a, (List.mem_filter.mp ha).1, p⟩
end
/-! ### places reached from one -/
structure SInv (q : Nat → List Nat) (st : Nat) (L : List Nat) (k : Nat) : Prop where
  z : st ∈ L
  nd : L.Nodup
  r : ∀ x ∈ L, x = st ∨ Pth q st x
  d : ∀ i x, i < k → L[i]? = some x → ∀ g ∈ q x, g ∈ L ∧ g ≠ st
theorem SInv.start (q : Nat → List Nat) (st : Nat) : SInv q st [st] 0 :=
  ⟨by simp, by simp, fun x hx => .inl (List.mem_singleton.mp hx), fun i x h => by omega⟩
theorem SInv.none {q : Nat → List Nat} {st : Nat} {L : List Nat} {k : Nat} (I : SInv q st L k) (hk : L.length ≤ k) : ¬ Pth q st st := fun p => by
  have cl : ∀ {a b : Nat}, Pth q a b → a ∈ L → b ∈ L ∧ b ≠ st := by
    intro a b p
    induction p with
    | one hb =>
      intro ha
      obtain ⟨i, hi⟩ := List.mem_iff_getElem?.mp ha
      exact I.d i _ (by have := (List.getElem?_eq_some_iff.mp hi).1; omega) hi _ hb
    | cons hb _ ih =>
      intro ha
      obtain ⟨i, hi⟩ := List.mem_iff_getElem?.mp ha
      exact ih (I.d i _ (by have := (List.getElem?_eq_some_iff.mp hi).1; omega) hi _ hb).1
  exact (cl p I.z).2 rfl
end OS

/-! Instructions with any parts: when they are right, where it goes on. -/
namespace OS
open PySem PySem.Spec PyProof.Rows L2
inductive Par where
  | n (i : Int) | s (z : Str) | c (cs : List (Str × Str × Int))
  deriving DecidableEq
def chI (c : Str × Str × Int) : Dt := .tup [.str c.1, .str c.2.1, .int c.2.2]
def Par.dt : Par → Dt | .n i => .int i | .s z => .str z | .c cs => .tup (cs.map chI)
structure I24 where
  w : Str
  ps : List Par
  deriving DecidableEq
def I24.dt (a : I24) : Dt := .tup (.str a.w :: a.ps.map Par.dt)
def numB (p : Par) (b : Int) : Bool := match p with | .n i => decide (0 ≤ i) && decide (i < b) | _ => false
def goalB (b : Int) (c : Str × Str × Int) : Bool := decide (0 ≤ c.2.2) && decide (c.2.2 < b)
def ascB : List Str → Bool
  | a :: b :: r => decide (a.cps.toList < b.cps.toList) && ascB (b :: r)
  | _ => true
def chB (p : Par) (b : Int) : Bool := match p with | .c cs => !cs.isEmpty && cs.all (goalB b) && ascB (cs.map (·.1)) | _ => false
def ansB (p : Par) : Bool := match p with | .s z => decide (z = "yes" ∨ z = "no") | _ => false
def namB (ends : List Str) (sort : Str) (p : Par) : Bool := match p with | .s z => decide (sort = "name" ∨ z ∈ ends) | _ => false
def okPart (ends : List Str) (b : Int) (sort : Str) (p : Par) : Bool :=
  if sort = "number" then numB p 4294967296 else if sort = "goal" then numB p b else if sort = "choices" then chB p b else if sort = "answer" then ansB p else namB ends sort p
def okIns (ends : List Str) (b : Int) (a : I24) : Bool :=
  match formOf a.w with
  | none => false
  | some ss => decide (a.ps.length = ss.length) && (List.zipWith (okPart ends b) ss a.ps).all id
/-- labels as they are drawn -/
def labs : List (List Str) := [["go", "no"], ["go"], ["no", "go"], [], ["go", "no", "no"]]
/-- instructions of the sorts that are drawn -/
structure Wf (a : I24) : Prop where
  ch : ∀ cs, Par.c cs ∈ a.ps → cs.map (·.1) ∈ labs ∧ ∀ c ∈ cs, PyData.strOk c.2.1 = true
  ts : a.w = "test" → ∀ p ∈ a.ps, ∃ z, p = .s z
  so : ∀ z, Par.s z ∈ a.ps → PyData.strOk z = true
  wo : PyData.strOk a.w = true
  len : a.ps.length ≤ 10
def wfB (a : I24) : Bool :=
  (a.ps.all fun p => match p with | .c cs => decide (cs.map (·.1) ∈ labs) && cs.all (fun c => PyData.strOk c.2.1) | .s z => PyData.strOk z | _ => true) &&
  (!decide (a.w = "test") || a.ps.all fun p => match p with | .s _ => true | _ => false) && PyData.strOk a.w && decide (a.ps.length ≤ 10)
theorem wf_of {a : I24} (h : wfB a = true) : Wf a := by
  unfold wfB at h
  simp only [Bool.and_eq_true, Bool.or_eq_true, Bool.not_eq_true', decide_eq_false_iff_not, decide_eq_true_eq] at h
  obtain ⟨⟨⟨h1, h2⟩, h3⟩, h4⟩ := h
  refine ⟨fun cs hc => ?_, fun e p hp => ?_, fun z hz => ?_, h3, h4⟩
  · have := List.all_eq_true.mp h1 _ hc
    simp only [Bool.and_eq_true, decide_eq_true_eq] at this
    exact ⟨this.1, fun c hc => List.all_eq_true.mp this.2 c hc⟩
  · rcases h2 with h2 | h2
    · exact absurd e h2
    · have := List.all_eq_true.mp h2 p hp
      cases p with
      | s z => exact ⟨z, rfl⟩
      | n i => cases this
      | c cs => cases this
  · have := List.all_eq_true.mp h1 _ hz
    exact this
/-! ### words -/
theorem form_words {w : Str} {ss : List Str} (h : formOf w = some ss) : (w, ss) ∈ forms := by
  unfold formOf at h
  cases e : forms.find? fun p => decide (p.1 = w) with
  | none => rw [e] at h; cases h
  | some x =>
    rw [e] at h
    have h : x.2 = ss := Option.some.inj h
    have hm := List.mem_of_find?_eq_some e
    have hp := List.find?_some e
    have hp : x.1 = w := of_decide_eq_true hp
    rw [← h, ← hp]
    exact hm
/-! ### where it goes on -/
def gN : Par → Nat | .n i => i.toNat | _ => 0
def csOf : Par → List (Str × Str × Int) | .c cs => cs | _ => []
def part (a : I24) (k : Nat) : Par := a.ps.getD k (.n 0)
def signW : List Str := ["add", "sub", "mul", "less", "same"]
def goalsOf (a : I24) (at_ : Nat) : List Nat :=
  if a.w = "stop" then [] else if a.w = "jump" then [gN (part a 0)] else if a.w = "wait" then (csOf (part a 1)).map (fun c => c.2.2.toNat)
  else if a.w = "zero" then [gN (part a 0), at_ + 1] else if a.w = "round" then [gN (part a 1), at_ + 1] else [at_ + 1]
def quietOf (a : I24) (at_ : Nat) : List Nat :=
  if a.w = "round" then [at_ + 1] else if a.w ∈ (["push", "load", "jump", "zero"] : List Str) ∨ a.w ∈ signW then goalsOf a at_ else []
def hbW (w : Str) (h : Int) : Int :=
  if w ∈ (["stop", "wait"] : List Str) then (if h > 0 then -1 else 0)
  else if w ∈ signW then (if h > 1 then h - 1 else -1)
  else if w ∈ (["push", "load"] : List Str) then h + 1
  else if w ∈ (["store", "zero", "emit"] : List Str) then h - 1 else h
def deedW : List Str := ["store", "emit", "input", "yes", "no", "test"]
def movesOf (a : I24) (at_ : Nat) : List (Nat × Bool) :=
  if a.w = "stop" then [] else if a.w = "jump" then [(gN (part a 0), false)] else if a.w = "wait" then (csOf (part a 1)).map (fun c => (c.2.2.toNat, true))
  else [(at_ + 1, decide (a.w ∈ deedW))] ++ (if a.w = "zero" then [(gN (part a 0), false)] else []) ++ (if a.w = "round" then [(gN (part a 1), true)] else [])
theorem word_cases {w : Str} {ss : List Str} (h : formOf w = some ss) : w = "push" ∨ w = "load" ∨ w = "store" ∨ w = "add" ∨ w = "sub" ∨ w = "mul" ∨ w = "less" ∨ w = "same" ∨ w = "jump" ∨ w = "zero" ∨ w = "emit" ∨ w = "wait" ∨ w = "input" ∨ w = "round" ∨ w = "yes" ∨ w = "no" ∨ w = "test" ∨ w = "stop" := by
  have hm := form_words h
  unfold forms at hm
  simp only [List.mem_cons, List.not_mem_nil, or_false, Prod.mk.injEq] at hm
  rcases hm with ⟨h, _⟩ | ⟨h, _⟩ | ⟨h, _⟩ | ⟨h, _⟩ | ⟨h, _⟩ | ⟨h, _⟩ | ⟨h, _⟩ | ⟨h, _⟩ | ⟨h, _⟩ | ⟨h, _⟩ | ⟨h, _⟩ | ⟨h, _⟩ | ⟨h, _⟩ | ⟨h, _⟩ | ⟨h, _⟩ | ⟨h, _⟩ | ⟨h, _⟩ | ⟨h, _⟩ <;> simp only [h, true_or, or_true]
/-- what is asked of a word alone: all eighteen are gone through -/
theorem by_words {p : Str → Bool} (h : (forms.all fun x => p x.1) = true) {w : Str} {ss : List Str} (hf : formOf w = some ss) : p w = true := List.all_eq_true.mp h (w, ss) (form_words hf)
theorem moves_goals {a : I24} {ss : List Str} (hf : formOf a.w = some ss) (k g : Nat) : g ∈ goalsOf a k ↔ ∃ d, (g, d) ∈ movesOf a k := by
  unfold goalsOf movesOf
  by_cases c1 : a.w = "stop"
  · rw [if_pos c1, if_pos c1]; simp
  rw [if_neg c1, if_neg c1]
  by_cases c2 : a.w = "jump"
  · rw [if_pos c2, if_pos c2]; simp
  rw [if_neg c2, if_neg c2]
  by_cases c3 : a.w = "wait"
  · rw [if_pos c3, if_pos c3]
    simp only [List.mem_map, Prod.mk.injEq]
    constructor
    · rintro ⟨c, hc, e⟩
      exact ⟨true, c, hc, e, rfl⟩
    · rintro ⟨d, c, hc, e, _⟩
      exact ⟨c, hc, e⟩
  rw [if_neg c3, if_neg c3]
  by_cases c4 : a.w = "zero"
  · have c5 : ¬ a.w = "round" := by rw [c4]; decide +kernel
    rw [if_pos c4, if_pos c4, if_neg c5]
    simp only [List.append_nil, List.mem_append, List.mem_cons, List.not_mem_nil, or_false, Prod.mk.injEq]
    constructor
    · rintro (h | h)
      · exact ⟨_, .inr ⟨h, rfl⟩⟩
      · exact ⟨_, .inl ⟨h, rfl⟩⟩
    · rintro ⟨d, ⟨h, _⟩ | ⟨h, _⟩⟩
      · exact .inr h
      · exact .inl h
  rw [if_neg c4, if_neg c4]
  by_cases c5 : a.w = "round"
  · rw [if_pos c5, if_pos c5]
    simp only [List.append_nil, List.mem_append, List.mem_cons, List.not_mem_nil, or_false, Prod.mk.injEq]
    constructor
    · rintro (h | h)
      · exact ⟨_, .inr ⟨h, rfl⟩⟩
      · exact ⟨_, .inl ⟨h, rfl⟩⟩
    · rintro ⟨d, ⟨h, _⟩ | ⟨h, _⟩⟩
      · exact .inr h
      · exact .inl h
  · rw [if_neg c5, if_neg c5]
    simp
theorem moves_quiet {a : I24} {ss : List Str} (hf : formOf a.w = some ss) (k g : Nat) : g ∈ quietOf a k ↔ (g, false) ∈ movesOf a k := by
  have q1 : ∀ w : Str, (w ∈ (["push", "load", "jump", "zero"] : List Str) ∨ w ∈ signW) → (w = "jump" ∨ w = "zero" ∨ (¬ w = "stop" ∧ ¬ w = "jump" ∧ ¬ w = "wait" ∧ ¬ w = "zero" ∧ ¬ w = "round" ∧ w ∉ deedW)) := by
    intro w h
    have h : w ∈ ((["push", "load", "jump", "zero"] : List Str) ++ signW) := List.mem_append.mpr h
    have : ∀ x ∈ ((["push", "load", "jump", "zero"] : List Str) ++ signW), (x = "jump" ∨ x = "zero" ∨ (¬ x = "stop" ∧ ¬ x = "jump" ∧ ¬ x = "wait" ∧ ¬ x = "zero" ∧ ¬ x = "round" ∧ x ∉ deedW)) := by decide +kernel
    exact this w h
  have q2 : (a.w = "stop" ∨ a.w = "wait" ∨ a.w = "round" ∨ a.w ∈ deedW ∨ a.w ∈ (["push", "load", "jump", "zero"] : List Str) ∨ a.w ∈ signW) := by
    have := by_words (p := fun w => decide (w = "stop" ∨ w = "wait" ∨ w = "round" ∨ w ∈ deedW ∨ w ∈ (["push", "load", "jump", "zero"] : List Str) ∨ w ∈ signW)) (by decide +kernel) hf
    exact of_decide_eq_true this
  unfold quietOf
  by_cases c1 : a.w = "round"
  · rw [if_pos c1]
    have e : movesOf a k = [(k + 1, false), (gN (part a 1), true)] := by
      unfold movesOf
      rw [c1, if_neg (by decide +kernel), if_neg (by decide +kernel), if_neg (by decide +kernel), if_neg (by decide +kernel), if_pos rfl, decide_eq_false (by decide +kernel)]
      rfl
    rw [e]
    simp
  rw [if_neg c1]
  by_cases c2 : a.w ∈ (["push", "load", "jump", "zero"] : List Str) ∨ a.w ∈ signW
  · rw [if_pos c2]
    rcases q1 _ c2 with e | e | ⟨n1, n2, n3, n4, n5, n6⟩
    · unfold goalsOf movesOf
      rw [e, if_neg (by decide +kernel), if_pos rfl, if_neg (by decide +kernel), if_pos rfl]
      simp
    · have e1 : goalsOf a k = [gN (part a 0), k + 1] := by
        unfold goalsOf
        rw [e, if_neg (by decide +kernel), if_neg (by decide +kernel), if_neg (by decide +kernel), if_pos rfl]
      have e2 : movesOf a k = [(k + 1, false), (gN (part a 0), false)] := by
        unfold movesOf
        rw [e, if_neg (by decide +kernel), if_neg (by decide +kernel), if_neg (by decide +kernel), if_pos rfl, if_neg (by decide +kernel), decide_eq_false (by decide +kernel)]
        rfl
      rw [e1, e2]
      simp only [List.mem_cons, List.not_mem_nil, or_false, Prod.mk.injEq, and_true]
      exact Or.comm
    · unfold goalsOf movesOf
      rw [if_neg n1, if_neg n2, if_neg n3, if_neg n4, if_neg n5, if_neg n1, if_neg n2, if_neg n3, if_neg n4, if_neg n5, decide_eq_false n6]
      simp
  · rw [if_neg c2]
    rcases q2 with e | e | e | e | e
    · unfold movesOf
      rw [if_pos e]
      simp
    · unfold movesOf
      rw [e, if_neg (by decide +kernel), if_neg (by decide +kernel), if_pos rfl]
      simp
    · exact absurd e c1
    · have n : ∀ x ∈ deedW, ¬ x = "stop" ∧ ¬ x = "jump" ∧ ¬ x = "wait" ∧ ¬ x = "zero" ∧ ¬ x = "round" := by decide +kernel
      obtain ⟨n1, n2, n3, n4, n5⟩ := n _ e
      unfold movesOf
      rw [if_neg n1, if_neg n2, if_neg n3, if_neg n4, if_neg n5, decide_eq_true e]
      simp
    · exact absurd e c2
theorem quiet_sub {a : I24} {ss : List Str} (hf : formOf a.w = some ss) (k g : Nat) (h : g ∈ quietOf a k) : g ∈ goalsOf a k := (moves_goals hf k g).mpr ⟨_, (moves_quiet hf k g).mp h⟩
/-! ### all of a code -/
def nxOf (C : List I24) (k : Nat) : List Nat := match C[k]? with | some a => goalsOf a k | none => []
def qOf (C : List I24) (k : Nat) : List Nat := match C[k]? with | some a => quietOf a k | none => []
def hbOf (C : List I24) (k : Nat) (h : Int) : Int := match C[k]? with | some a => hbW a.w h | none => -1
def mvOf (C : List I24) (k : Nat) : List (Nat × Bool) := match C[k]? with | some a => movesOf a k | none => []
theorem nx_mv {C : List I24} (h : ∀ a ∈ C, ∃ ss, formOf a.w = some ss) (k g : Nat) : g ∈ nxOf C k ↔ ∃ d, (g, d) ∈ mvOf C k := by
  unfold nxOf mvOf
  cases e : C[k]? with
  | none => simp
  | some a =>
    obtain ⟨ss, hf⟩ := h a (List.mem_of_getElem? e)
    exact moves_goals hf k g
theorem q_mv {C : List I24} (h : ∀ a ∈ C, ∃ ss, formOf a.w = some ss) (k g : Nat) : g ∈ qOf C k ↔ (g, false) ∈ mvOf C k := by
  unfold qOf mvOf
  cases e : C[k]? with
  | none => simp
  | some a =>
    obtain ⟨ss, hf⟩ := h a (List.mem_of_getElem? e)
    exact moves_quiet hf k g
theorem q_nx {C : List I24} (h : ∀ a ∈ C, ∃ ss, formOf a.w = some ss) (k g : Nat) (hg : g ∈ qOf C k) : g ∈ nxOf C k := (nx_mv h k g).mpr ⟨_, (q_mv h k g).mp hg⟩
theorem rch_nn {n : Nat} {nx : Nat → List Nat} {hb : Nat → Int → Int} {a : Nat} {h : Int} (r : Rch n nx hb a h) : 0 ≤ h := by
  cases r with
  | z => exact Int.le_refl _
  | s _ _ _ h _ => exact h
theorem ok_form {ends : List Str} {b : Int} {a : I24} (h : okIns ends b a = true) : ∃ ss, formOf a.w = some ss := by
  unfold okIns at h
  cases e : formOf a.w with
  | none => rw [e] at h; cases h
  | some ss => exact ⟨ss, rfl⟩
/-- sound code -/
def Sound (ends : List Str) (C : List I24) : Prop := C ≠ [] ∧ (∀ a ∈ C, okIns ends (C.length : Nat) a = true) ∧ OKh C.length (nxOf C) (hbOf C) ∧ ¬ ∃ a, (∃ h, Rch C.length (nxOf C) (hbOf C) a h) ∧ Pth (qOf C) a a
end OS

/-! The law's own heights, and its search from each place. -/
namespace OS
open PySem PySem.Spec PyProof.Rows L2
def tkL : List (Str × Int) := [("store", 1), ("add", 2), ("sub", 2), ("mul", 2), ("less", 2), ("same", 2), ("zero", 1), ("emit", 1)]
def ptL : List (Str × Int) := [("push", 1), ("load", 1), ("add", 1), ("sub", 1), ("mul", 1), ("less", 1), ("same", 1)]
def lkI (l : List (Str × Int)) (w : Str) : Int := ((l.find? fun p => decide (p.1 = w)).map (·.2)).getD 0
def tkS (w : Str) : Int := if w ∈ (["stop", "wait"] : List Str) then 0 else if w ∈ signW then 2 else if w ∈ (["push", "load"] : List Str) then 0 else if w ∈ (["store", "zero", "emit"] : List Str) then 1 else 0
def ptS (w : Str) : Int := if w ∈ (["stop", "wait"] : List Str) then 0 else if w ∈ signW then 1 else if w ∈ (["push", "load"] : List Str) then 1 else if w ∈ (["store", "zero", "emit"] : List Str) then 0 else 0
theorem lk_tk {w : Str} {ss : List Str} (h : formOf w = some ss) : lkI tkL w = tkS w ∧ lkI ptL w = ptS w :=
  of_decide_eq_true (by_words (p := fun w => decide (lkI tkL w = tkS w ∧ lkI ptL w = ptS w)) (by decide +kernel) h)
/-- the law's height behind a word -/
theorem law_now {w : Str} {ss : List Str} {h : Int} (hf : formOf w = some ss) (h0 : 0 ≤ h) :
    ((h - lkI tkL w < 0 ∨ (w ∈ (["stop", "wait"] : List Str) ∧ h ≠ 0)) ↔ hbW w h < 0) ∧ (¬ hbW w h < 0 → h - lkI tkL w + lkI ptL w = hbW w h) := by
  obtain ⟨e1, e2⟩ := lk_tk hf
  rw [e1, e2]
  unfold tkS ptS hbW
  by_cases c1 : w ∈ (["stop", "wait"] : List Str)
  · simp only [if_pos c1]
    by_cases c : h > 0
    · rw [if_pos c]
      exact ⟨⟨fun _ => by omega, fun _ => .inr ⟨c1, by omega⟩⟩, fun z => by omega⟩
    · rw [if_neg c]
      refine ⟨⟨fun z => ?_, fun z => by omega⟩, fun _ => by omega⟩
      rcases z with z | ⟨_, z⟩ <;> omega
  have nc : ∀ x : Prop, (x ∨ (w ∈ (["stop", "wait"] : List Str) ∧ h ≠ 0)) ↔ x := fun x => ⟨fun z => z.elim id fun z => absurd z.1 c1, .inl⟩
  rw [nc]
  simp only [if_neg c1]
  by_cases c2 : w ∈ signW
  · simp only [if_pos c2]
    by_cases c : h > 1
    · rw [if_pos c]
      exact ⟨⟨fun _ => by omega, fun _ => by omega⟩, fun z => by omega⟩
    · rw [if_neg c]
      exact ⟨⟨fun _ => by omega, fun _ => by omega⟩, fun z => by omega⟩
  simp only [if_neg c2]
  by_cases c3 : w ∈ (["push", "load"] : List Str)
  · simp only [if_pos c3]
    exact ⟨⟨fun _ => by omega, fun _ => by omega⟩, fun z => by omega⟩
  simp only [if_neg c3]
  by_cases c4 : w ∈ (["store", "zero", "emit"] : List Str)
  · rw [if_pos c4, if_pos c4, if_pos c4]
    exact ⟨⟨fun _ => by omega, fun _ => by omega⟩, fun z => by omega⟩
  · rw [if_neg c4, if_neg c4, if_neg c4]
    exact ⟨⟨fun _ => by omega, fun _ => by omega⟩, fun z => by omega⟩
/-! ### the search -/
structure SMid (q : Nat → List Nat) (st : Nat) (L : List Nat) (k x : Nat) (G : List Nat) : Prop where
  z : st ∈ L
  nd : L.Nodup
  r : ∀ y ∈ L, y = st ∨ Pth q st y
  d : ∀ i y, i < k → L[i]? = some y → ∀ g ∈ q y, g ∈ L ∧ g ≠ st
  x : L[k]? = some x
  g : ∀ g ∈ G, g ∈ L ∧ g ≠ st
section
variable {q : Nat → List Nat} {st : Nat} {L : List Nat} {k x : Nat} {G : List Nat}
theorem SInv.mid (I : SInv q st L k) (hx : L[k]? = some x) : SMid q st L k x [] := ⟨I.z, I.nd, I.r, I.d, hx, fun g hg => by cases hg⟩
theorem SMid.to (I : SMid q st L k x G) {g : Nat} (hg : g ∈ q x) : Pth q st g := by
  rcases I.r x (List.mem_of_getElem? I.x) with e | p
  · exact .one (by rw [← e]; exact hg)
  · exact p.snoc hg
theorem SMid.old (I : SMid q st L k x G) {g : Nat} (hm : g ∈ L) (hn : g ≠ st) : SMid q st L k x (G ++ [g]) :=
  ⟨I.z, I.nd, I.r, I.d, I.x, fun y hy => by
    rcases List.mem_append.mp hy with hy | hy
    · exact I.g y hy
    · rw [List.mem_singleton.mp hy]
      exact ⟨hm, hn⟩⟩
theorem SMid.new (I : SMid q st L k x G) {g : Nat} (hg : g ∈ q x) (hm : g ∉ L) (hn : g ≠ st) : SMid q st (L ++ [g]) k x (G ++ [g]) where
  z := List.mem_append_left _ I.z
  nd := by
    rw [List.nodup_append]
    refine ⟨I.nd, by simp, fun a ha b hb => ?_⟩
    rintro rfl
    rw [List.mem_singleton.mp hb] at ha
    exact hm ha
  r := fun y hy => by
    rcases List.mem_append.mp hy with hy | hy
    · exact I.r y hy
    · rw [List.mem_singleton.mp hy]
      exact .inr (I.to hg)
  d := fun i y hi hy a ha => by
    have hk := (List.getElem?_eq_some_iff.mp I.x).1
    rw [List.getElem?_append_left (by omega)] at hy
    have := I.d i y hi hy a ha
    exact ⟨List.mem_append_left _ this.1, this.2⟩
  x := by
    have hk := (List.getElem?_eq_some_iff.mp I.x).1
    rw [List.getElem?_append_left hk]
    exact I.x
  g := fun y hy => by
    rcases List.mem_append.mp hy with hy | hy
    · exact ⟨List.mem_append_left _ (I.g y hy).1, (I.g y hy).2⟩
    · rw [List.mem_singleton.mp hy]
      exact ⟨List.mem_append_right _ (by simp), hn⟩
theorem SMid.done (I : SMid q st L k x G) (hG : ∀ g ∈ q x, g ∈ G) : SInv q st L (k + 1) :=
  ⟨I.z, I.nd, I.r, fun i y hi hy g hg => by
    by_cases e : i < k
    · exact I.d i y e hy g hg
    · have : i = k := by omega
      subst this
      have : x = y := Option.some.inj (I.x.symm.trans hy)
      subst this
      exact I.g g (hG g hg)⟩
end
theorem nats_le {n : Nat} {l : List Nat} (nd : l.Nodup) (h : ∀ x ∈ l, x < n) : l.length ≤ n := by
  have s : l ⊆ List.range n := fun x hx => List.mem_range.mpr (h x hx)
  have := List.Nodup.length_le_of_subset nd s
  rwa [List.length_range] at this
/-- places that are reached lead to such -/
theorem rch_q {n : Nat} {nx q : Nat → List Nat} {hb : Nat → Int → Int} (ok : OKh n nx hb) (hq : ∀ a g, g ∈ q a → g ∈ nx a) {a b : Nat} (p : Pth q a b) : (∃ h, Rch n nx hb a h) → ∃ h, Rch n nx hb b h := by
  have one : ∀ {a g : Nat}, g ∈ q a → (∃ h, Rch n nx hb a h) → ∃ h, Rch n nx hb g h := fun hg ⟨h, r⟩ => by
    obtain ⟨o1, o2, o3, _⟩ := ok _ h r
    exact ⟨_, .s r o1 o2 o3 (hq _ _ hg)⟩
  induction p with
  | one h => exact one h
  | cons h _ ih => exact fun z => ih (one h z)
end OS

namespace OS
open PySem PySem.Spec PyProof.Rows L2
def topS (i : Nat) : Stmt := PySem.Challenge.pw_onescore_k24_sound_code.main.body.getD i (.Pass ⟨0, 0, 0, 0⟩)
abbrev s_is_number : Stmt := topS 6
theorem sc_is_number : FnScope ["part", "bound"] ["part", "bound"] (defScope s_is_number) := ⟨rfl, rfl, rfl, by decide +kernel, rfl, by decide +kernel, by decide +kernel⟩
abbrev s_is_choice : Stmt := topS 7
theorem sc_is_choice : FnScope ["choice", "many", "label", "variable", "goal"] ["choice", "many"] (defScope s_is_choice) := ⟨rfl, rfl, rfl, by decide +kernel, rfl, by decide +kernel, by decide +kernel⟩
abbrev s_are_choices : Stmt := topS 8
theorem sc_are_choices : FnScope ["part", "many", "at", "choice"] ["part", "many"] (defScope s_are_choices) := ⟨rfl, rfl, rfl, by decide +kernel, rfl, by decide +kernel, by decide +kernel⟩
abbrev s_is_part : Stmt := topS 9
theorem sc_is_part : FnScope ["sort", "part", "ends", "many"] ["sort", "part", "ends", "many"] (defScope s_is_part) := ⟨rfl, rfl, rfl, by decide +kernel, rfl, by decide +kernel, by decide +kernel⟩
abbrev s_is_instruction : Stmt := topS 10
theorem sc_is_instruction : FnScope ["instruction", "ends", "many", "word", "sort", "part"] ["instruction", "ends", "many"] (defScope s_is_instruction) := ⟨rfl, rfl, rfl, by decide +kernel, rfl, by decide +kernel, by decide +kernel⟩
abbrev s_goals_behind : Stmt := topS 11
theorem sc_goals_behind : FnScope ["code", "at", "word", "choice"] ["code", "at"] (defScope s_goals_behind) := ⟨rfl, rfl, rfl, by decide +kernel, rfl, by decide +kernel, by decide +kernel⟩
abbrev s_quiet_goals : Stmt := topS 12
theorem sc_quiet_goals : FnScope ["code", "at", "word"] ["code", "at"] (defScope s_quiet_goals) := ⟨rfl, rfl, rfl, by decide +kernel, rfl, by decide +kernel, by decide +kernel⟩
abbrev s_height_behind : Stmt := topS 13
theorem sc_height_behind : FnScope ["word", "height"] ["word", "height"] (defScope s_height_behind) := ⟨rfl, rfl, rfl, by decide +kernel, rfl, by decide +kernel, by decide +kernel⟩
abbrev s_reached_heights : Stmt := topS 14
theorem sc_reached_heights : FnScope ["code", "heights", "waiting", "at", "behind", "goal"] ["code"] (defScope s_reached_heights) := ⟨rfl, rfl, rfl, by decide +kernel, rfl, by decide +kernel, by decide +kernel⟩
abbrev s_has_quiet_circle : Stmt := topS 15
theorem sc_has_quiet_circle : FnScope ["code", "reached", "at", "before", "goal", "waiting", "many"] ["code", "reached"] (defScope s_has_quiet_circle) := ⟨rfl, rfl, rfl, by decide +kernel, rfl, by decide +kernel, by decide +kernel⟩
abbrev s_is_sound : Stmt := topS 16
theorem sc_is_sound : FnScope ["ends", "code", "heights", "instruction"] ["ends", "code"] (defScope s_is_sound) := ⟨rfl, rfl, rfl, by decide +kernel, rfl, by decide +kernel, by decide +kernel⟩
abbrev s__law_tape : Stmt := topS 18
theorem sc__law_tape : FnScope ["script", "cell", "cells", "seed"] ["script"] (defScope s__law_tape) := ⟨rfl, rfl, rfl, by decide +kernel, rfl, by decide +kernel, by decide +kernel⟩
abbrev s__law_take : Stmt := topS 19
theorem sc__law_take : FnScope ["tape", "many", "drawn", "mixed"] ["tape", "many"] (defScope s__law_take) := ⟨rfl, rfl, rfl, by decide +kernel, rfl, by decide +kernel, by decide +kernel⟩
abbrev s__law_is_integer : Stmt := topS 20
theorem sc__law_is_integer : FnScope ["actual"] ["actual"] (defScope s__law_is_integer) := ⟨rfl, rfl, rfl, by decide +kernel, rfl, by decide +kernel, by decide +kernel⟩
abbrev s__law_same_items : Stmt := topS 21
theorem sc__law_same_items : FnScope ["actual", "expected", "k"] ["actual", "expected"] (defScope s__law_same_items) := ⟨rfl, rfl, rfl, by decide +kernel, rfl, by decide +kernel, by decide +kernel⟩
abbrev s__law_same : Stmt := topS 22
theorem sc__law_same : FnScope ["actual", "expected", "key"] ["actual", "expected"] (defScope s__law_same) := ⟨rfl, rfl, rfl, by decide +kernel, rfl, by decide +kernel, by decide +kernel⟩
abbrev s__law_shape_ok : Stmt := topS 23
theorem sc__law_shape_ok : FnScope ["ends", "one", "size", "shapes", "more", "shape", "k", "part", "number"] ["ends", "one", "size"] (defScope s__law_shape_ok) := ⟨rfl, rfl, rfl, by decide +kernel, rfl, by decide +kernel, by decide +kernel⟩
abbrev s__law_choices_ok : Stmt := topS 24
theorem sc__law_choices_ok : FnScope ["part", "size", "one", "labels", "k"] ["part", "size"] (defScope s__law_choices_ok) := ⟨rfl, rfl, rfl, by decide +kernel, rfl, by decide +kernel, by decide +kernel⟩
abbrev s__law_moves : Stmt := topS 25
theorem sc__law_moves : FnScope ["code", "at", "one", "moves", "choice"] ["code", "at"] (defScope s__law_moves) := ⟨rfl, rfl, rfl, by decide +kernel, rfl, by decide +kernel, by decide +kernel⟩
abbrev s__law_sound : Stmt := topS 26
theorem sc__law_sound : FnScope ["ends", "code", "takes", "puts", "height", "waiting", "at", "word", "now", "goal", "deed", "start", "reached", "k", "one"] ["ends", "code"] (defScope s__law_sound) := ⟨rfl, rfl, rfl, by decide +kernel, rfl, by decide +kernel, by decide +kernel⟩
abbrev s__law_instruction : Stmt := topS 27
theorem sc__law_instruction : FnScope ["tape", "many", "goal", "name", "number", "end", "both", "choices", "word", "menu"] ["tape", "many"] (defScope s__law_instruction) := ⟨rfl, rfl, rfl, by decide +kernel, rfl, by decide +kernel, by decide +kernel⟩
abbrev s__law_pattern : Stmt := topS 28
theorem sc__law_pattern : FnScope ["tape", "at", "many", "choice", "goal"] ["tape", "at", "many"] (defScope s__law_pattern) := ⟨rfl, rfl, rfl, by decide +kernel, rfl, by decide +kernel, by decide +kernel⟩
abbrev s_law : Stmt := topS 29
theorem sc_law : FnScope ["script", "tape", "k", "many", "code"] ["script"] (defScope s_law) := ⟨rfl, rfl, rfl, by decide +kernel, rfl, by decide +kernel, by decide +kernel⟩
/-- the built-in names are the built-ins' -/
structure Txt (K : PySem.W.Frag) (mg : Str → Option Value) : Prop where
  len : mg "len" = none
  abs : mg "abs" = none
  int : mg "int" = none
  bool : mg "bool" = none
  str : mg "str" = none
  list : mg "list" = none
  tuple : mg "tuple" = none
  dict : mg "dict" = none
  isinstance : mg "isinstance" = none
  range : mg "range" = none
  zip : mg "zip" = none
  all : mg "all" = none
  sorted : mg "sorted" = none
def ansL : List Str := ["yes", "no"]
/-- the program's constants -/
structure CodTxt (K : PySem.W.Frag) (w : World) (mg : Str → Option Value) : Prop where
  mMOD : ∃ t, mg "MODULUS" = some (.int 4294967296 t)
  mMOS : ∃ t, mg "MOST_HEIGHT" = some (.int 40 t)
  mANS : ∃ a, mg "ANSWERS" = some (.ref a) ∧ ∀ H, SqT K H a (ansL.map V.str)
  mFOR : ∃ d es n, mg "FORMS" = some (.ref d) ∧ KDict K w d es n ∧ (∀ z, formOf z = none → PySem.W.nsIn K d z = some none) ∧ ∀ z ss, formOf z = some ss → ∃ p, PySem.W.nsIn K d z = some (some (.ref p)) ∧ ∀ H, SqT K H p (ss.map V.str)
  mSIG : ∃ d es n, mg "SIGNS" = some (.ref d) ∧ KDict K w d es n ∧ (∀ z, z ∉ signW → PySem.W.nsIn K d z = some none) ∧ ∀ z, z ∈ signW → ∃ v, PySem.W.nsIn K d z = some (some v)
theorem str_eqV (a b : Str) : decide (V.str a = V.str b) = decide (a = b) := decide_eq_decide.mpr ⟨fun q => by injection q, fun q => by rw [q]⟩
theorem lt_units {A : Around} (h : A.units + 64 < cLine) : A.units + 1 < cLine := by omega
end OS

namespace OS
open PySem PySem.Spec PyProof.Rows L2
section
variable {P : Program} {w : World} {K : PySem.W.Frag} {mg : Str → Option Value} {base : Heap}
def spNum (K : PySem.W.Frag) : Sp := fun vs H Q _ => ∃ (v : V) (b : Int) (p : Par), vs = [v, .int b] ∧ At K H p.dt v ∧ Q (.bl (numB p b)) H
theorem ok_is_number {f : Addr} {fd : FuncData} (F : Fun K "is_number" "is_number" s_is_number f fd) (T : Txt K mg) : FnOk P w K mg base CX0 1 f fd ["part", "bound"] (spNum K) := by
  refine F.ok sc_is_number (fun vs H Q E h => ?_) (fun cdv A outer s H vs Q E hr h => ?_)
  · obtain ⟨v, b, p, rfl, _⟩ := h
    rfl
  · obtain ⟨v, b, p, rfl, hv, k⟩ := h
    refine ⟨_, (pss_one (ps_ret (pe_and (pe_callB call_isi (by rfl) T.isinstance (by decide +kernel) (pa_cons (pv 0) (pa_cons (pe_bltn (v := .ty "int") (u := Value.type "int") (by rfl) T.int (by decide +kernel) rfl) pa_nil))) (pe_one (pe_chain op_le op_lt pe_int (pv 0) (pv 1)))))), ?_⟩
    cases p with
    | n i =>
      simp only [Par.dt, At] at hv
      subst hv
      refine ⟨_, rfl, _, _, .type "int", .type "int", true, rfl, .ty _, .base (.int i), kit_ty (by decide +kernel), true, rfl, iteT ?_⟩
      refine ⟨_, rfl, _, _, rfl, rfl, _, rfl, ?_⟩
      show if decide (0 ≤ i) = true then _ else _
      have k : Q (.bl (decide (0 ≤ i) && decide (i < b))) H := k
      by_cases c : 0 ≤ i
      · rw [decide_eq_true c] at k ⊢
        exact iteT ⟨_, rfl, _, _, rfl, rfl, by rw [Bool.true_and] at k; exact k⟩
      · rw [decide_eq_false c] at k ⊢
        exact iteF k
    | s z =>
      simp only [Par.dt, At] at hv
      subst hv
      exact ⟨_, rfl, _, _, .type "str", .type "int", false, rfl, .ty _, .base (.str z), kit_ty (by decide +kernel), false, rfl, iteF k⟩
    | c cs =>
      simp only [Par.dt, At] at hv
      obtain ⟨q, us, rfl, hq, _⟩ := hv
      exact ⟨_, rfl, _, _, .type "tuple", .type "int", false, rfl, .ty _, .base (.tup hq), kit_ty (by decide +kernel), false, rfl, iteF k⟩
def spChoice (K : PySem.W.Frag) : Sp := fun vs H Q _ => ∃ (v : V) (b : Int) (c : Str × Str × Int), vs = [v, .int b] ∧ At K H (chI c) v ∧ Q (.bl (goalB b c)) H
theorem ok_is_choice {f : Addr} {fd : FuncData} (F : Fun K "is_choice" "is_choice" s_is_choice f fd) (T : Txt K mg) {f_is_number : Addr} {d_is_number : FuncData} (c_is_number : Cal P w K mg base 1 "is_number" ["part", "bound"] (spNum K) f_is_number d_is_number) : FnOk P w K mg base CX0 2 f fd ["choice", "many"] (spChoice K) := by
  refine F.ok sc_is_choice (fun vs H Q E h => ?_) (fun cdv A outer s H vs Q E hr h => ?_)
  · obtain ⟨v, b, c, rfl, _⟩ := h
    rfl
  · obtain ⟨v, b, c, rfl, hv, k⟩ := h
    simp only [chI, At, AtL] at hv
    obtain ⟨p, zs, rfl, hp, _, _, rfl, rfl, _, _, rfl, rfl, _, _, rfl, rfl, rfl⟩ := hv
    refine ⟨_, (pss_cons (ps_if (PW.pt (pw_or (pt_not (pt_val (pe_callB call_isi (by rfl) T.isinstance (by decide +kernel) (pa_cons (pv 0) (pa_cons (pe_bltn (v := .ty "tuple") (u := Value.type "tuple") (by rfl) T.tuple (by decide +kernel) rfl) pa_nil))))) (pw_or1 (pt_cmpR op_ne (pe_callB call_len_seq (by rfl) T.len PySem.boot_len (pa_cons (pv 0) pa_nil)) pe_int (nomark _))))) (pss_one (ps_ret pe_bl)) pss_nil)
      (pss_cons (ps_asg (pv 0) (pg_tup (by rfl) (pgs_cons (pg_name (i := 2) sc_is_choice.nd rfl (.inl rfl)) (pgs_cons (pg_name (i := 3) sc_is_choice.nd rfl (.inl rfl)) (pgs_cons (pg_name (i := 4) sc_is_choice.nd rfl (.inl rfl)) pgs_nil)))))
      (pss_one (ps_ret (pe_and (pe_callB call_isi (by rfl) T.isinstance (by decide +kernel) (pa_cons (pv 2) (pa_cons (pe_bltn (v := .ty "str") (u := Value.type "str") (by rfl) T.str (by decide +kernel) rfl) pa_nil))) (pe_and (pe_callB call_isi (by rfl) T.isinstance (by decide +kernel) (pa_cons (pv 3) (pa_cons (pe_bltn (v := .ty "str") (u := Value.type "str") (by rfl) T.str (by decide +kernel) rfl) pa_nil))) (pe_one (pe_call c_is_number.G (hr.mono (by decide)) (by rfl) c_is_number.m c_is_number.k c_is_number.b .nil pass0 (pa_cons (pv 4) (pa_cons (pv 1) pa_nil)))))))))), ?_⟩
    refine ⟨_, rfl, _, _, .type "tuple", .type "tuple", true, rfl, .ty _, .base (.tup hp), kit_ty (by decide +kernel), true, rfl, iteF ?_⟩
    refine ⟨_, rfl, p, _, rfl, .inr (SqT.of hp), rfl, _, rfl, ?_⟩
    rw [decide_eq_true (show V.int (([V.str c.1, V.str c.2.1, V.int c.2.2] : List V).length : Nat) = V.int 3 from rfl)]
    refine iteF ?_
    refine ⟨_, rfl, p, _, rfl, SqT.of hp, rfl, _, _, rfl, _, _, rfl, _, _, rfl, rfl, ?_⟩
    refine ⟨_, rfl, _, _, .type "str", .type "str", true, rfl, .ty _, .base (.str _), kit_ty (by decide +kernel), true, rfl, iteT ?_⟩
    refine ⟨_, rfl, _, _, .type "str", .type "str", true, rfl, .ty _, .base (.str _), kit_ty (by decide +kernel), true, rfl, iteT ?_⟩
    exact ⟨_, rfl, _, rfl, _, b, .n c.2.2, rfl, by simp [Par.dt, At], k⟩
theorem same_off {H H' : Hp} {D : Addr} {o : HO} (nD : H D = none) (s : Same H H') : Same H (upd H' D o) := fun b x e => by
  rw [upd_ne (ne_of_none e nD)]
  exact s b x e
def ltAt (l : List Str) (i : Nat) : Bool := match l[i]?, l[i + 1]? with | some a, some b => decide (a.cps.toList < b.cps.toList) | _, _ => false
theorem asc_all : ∀ l : List Str, ascB l = (List.range (l.length - 1)).all (ltAt l)
  | [] => rfl
  | [_] => rfl
  | a :: b :: r => by
    have ih := asc_all (b :: r)
    show (decide (a.cps.toList < b.cps.toList) && ascB (b :: r)) = (List.range (r.length + 1)).all (ltAt (a :: b :: r))
    rw [List.range_succ_eq_map, List.all_cons, List.all_map, ih]
    rfl
def spChoices (K : PySem.W.Frag) : Sp := fun vs H Q _ => ∃ (v : V) (b : Int) (p : Par), vs = [v, .int b] ∧ At K H p.dt v ∧ (∀ cs, p = .c cs → cs.length ≤ 10) ∧ ∀ H', Same H H' → Q (.bl (chB p b)) H'
theorem ok_are_choices {f : Addr} {fd : FuncData} (F : Fun K "are_choices" "are_choices" s_are_choices f fd) (T : Txt K mg) {f_is_choice : Addr} {d_is_choice : FuncData} (c_is_choice : Cal P w K mg base 2 "is_choice" ["choice", "many"] (spChoice K) f_is_choice d_is_choice) : FnOk P w K mg base CX0 3 f fd ["part", "many"] (spChoices K) := by
  refine F.ok sc_are_choices (fun vs H Q E h => ?_) (fun cdv A outer s H vs Q E hr h => ?_)
  · obtain ⟨v, b, p, rfl, _⟩ := h
    rfl
  · obtain ⟨v, b, p, rfl, hv, hcs, k⟩ := h
    refine ⟨_, (pss_cons (ps_if (PW.pt (pw_or (pt_not (pt_val (pe_callB call_isi (by rfl) T.isinstance (by decide +kernel) (pa_cons (pv 0) (pa_cons (pe_bltn (v := .ty "tuple") (u := Value.type "tuple") (by rfl) T.tuple (by decide +kernel) rfl) pa_nil))))) (pw_or (pt_not (pt_truth (pv 0) (by intro _; rfl))) (pw_or1 (pt_not (pt_val (pe_callB (cr_all (by rfl)) (by rfl) T.all (by decide +kernel) (pa_cons (pe_lc (own := [("choice", 3)]) (g := gName 3) (by rfl) sc_are_choices.nd (pi_tup (pv 0)) (blkOk_by (N := ["part", "many", "at", "choice"]) (sc := defScope s_are_choices) (by decide +kernel)) (fun _ _ _ _ _ => pg_name (i := 3) sc_are_choices.nd rfl (by first | exact Or.inl rfl | exact Or.inr rfl)) (fun _ _ _ _ _ => pts_nil) (fun _ _ _ _ _ => (pe_call c_is_choice.G (hr.mono (by decide)) (by rfl) c_is_choice.m c_is_choice.k c_is_choice.b .nil pass0 (pa_cons (pv 3) (pa_cons (pv 1) pa_nil))))) pa_nil)))))))) (pss_one (ps_ret pe_bl)) pss_nil)
      (pss_one (ps_ret (pe_callB (cr_all (by rfl)) (by rfl) T.all (by decide +kernel) (pa_cons (pe_lc (own := [("at", 2)]) (g := gName 2) (by rfl) sc_are_choices.nd (pi_range2 (by rfl) T.range (pa_cons pe_int (pa_cons (pe_callB call_len_seq (by rfl) T.len PySem.boot_len (pa_cons (pv 0) pa_nil)) pa_nil))) (blkOk_by (N := ["part", "many", "at", "choice"]) (sc := defScope s_are_choices) (by decide +kernel)) (fun _ _ _ _ _ => pg_name (i := 2) sc_are_choices.nd rfl (by first | exact Or.inl rfl | exact Or.inr rfl)) (fun _ _ _ _ _ => pts_nil) (fun _ _ _ _ _ => (pe_cmpR op_lt_str (pe_ix (show IxR _ (rIxT K) from ix_tup) (pe_ix (show IxR _ (rIxT K) from ix_tup) (pv 0) (pe_op op_sub (pv 2) pe_int) (fun _ _ => rfl)) pe_int (fun _ _ => rfl)) (pe_ix (show IxR _ (rIxT K) from ix_tup) (pe_ix (show IxR _ (rIxT K) from ix_tup) (pv 0) (pv 2) (fun _ _ => rfl)) pe_int (fun _ _ => rfl)) (nomark _)))) pa_nil))))), ?_⟩
    cases p with
    | n i =>
      simp only [Par.dt, At] at hv
      subst hv
      exact ⟨_, rfl, _, _, .type "int", .type "tuple", false, rfl, .ty _, .base (.int i), kit_ty (by decide +kernel), false, rfl, iteT (iteT (k _ fun _ _ e => e))⟩
    | s z =>
      simp only [Par.dt, At] at hv
      subst hv
      exact ⟨_, rfl, _, _, .type "str", .type "tuple", false, rfl, .ty _, .base (.str z), kit_ty (by decide +kernel), false, rfl, iteT (iteT (k _ fun _ _ e => e))⟩
    | c cs =>
      simp only [Par.dt, At] at hv
      obtain ⟨q, us, rfl, hq, hus⟩ := hv
      refine ⟨_, rfl, _, _, .type "tuple", .type "tuple", true, rfl, .ty _, .base (.tup hq), kit_ty (by decide +kernel), true, rfl, iteF ?_⟩
      refine ⟨_, rfl, !us.isEmpty, .inr (.inl ⟨us, SqT.of hq, rfl⟩), ?_⟩
      have lu := hus.length
      rw [List.length_map] at lu
      have hle : us.isEmpty = cs.isEmpty := by
        cases us with
        | nil => cases cs with
          | nil => rfl
          | cons _ _ => cases lu
        | cons _ _ => cases cs with
          | nil => cases lu
          | cons _ _ => rfl
      rw [hle]
      have hl10 := hcs cs rfl
      have k : ∀ H', Same H H' → Q (.bl (!cs.isEmpty && cs.all (goalB b) && ascB (cs.map (·.1)))) H' := k
      cases ce : cs.isEmpty with
      | true =>
        rw [ce] at k
        exact iteT (iteT (k _ fun _ _ e => e))
      | false =>
        rw [ce] at k
        refine iteF ⟨_, rfl, q, rfl, ⟨_, SqT.of hq⟩, fun D nD => ?_⟩
        refine lc_tup (K := K) (a := q) (xs := us) (fun i H2 => H2 D = some (.lst (((cs.take i).map (goalB b)).map V.bl)) ∧ Same H H2) ⟨upd_same, same_upd nD⟩ (fun i H2 _ x => SqT.of (x.2 _ _ hq)) ?_ ?_
        · rintro i x H2 hx ⟨hD, s2⟩
          have hi : i < cs.length := by
            have := (List.getElem?_eq_some_iff.mp hx).1
            omega
          obtain ⟨v, e1, e2⟩ := hus.get (i := i) (d := chI cs[i]) (by rw [List.getElem?_map, List.getElem?_eq_getElem hi]; rfl)
          rw [hx] at e1
          cases e1
          refine ⟨rfl, iteT (B := True) ⟨_, rfl, _, rfl, _, b, cs[i], rfl, e2.keep s2, ?_⟩⟩
          refine ⟨_, hD, ?_, ?_, same_off nD s2⟩
          · rw [List.length_map, List.length_map, List.length_take]
            exact sz6' (by omega)
          · rw [upd_same, List.take_add_one, List.getElem?_eq_getElem hi, List.map_append, List.map_append]
            rfl
        rintro H2 ⟨hD, s2⟩
        rw [lu, List.take_length] at hD
        refine ⟨D, _, rfl, SqL.of hD, ?_⟩
        have ea : (cs.map (goalB b)).all id = cs.all (goalB b) := by rw [List.all_map]; rfl
        rw [ea]
        cases cg : cs.all (goalB b) with
        | false =>
          rw [cg] at k
          exact ⟨_, rfl, iteT (k _ s2)⟩
        | true =>
          rw [cg] at k
          have hq2 := s2 _ _ hq
          refine ⟨_, rfl, iteF ?_⟩
          refine ⟨_, rfl, q, _, rfl, .inr (SqT.of hq2), 1, _, rfl, by omega, fun D2 nD2 => ?_⟩
          rw [show ((us.length : Nat) : Int) - 1 = ((cs.length - 1 : Nat) : Int) by have : cs.length ≠ 0 := (fun z => by rw [List.eq_nil_of_length_eq_zero z] at ce; cases ce); omega]
          refine lc_range (n := cs.length - 1) (fun i H3 => H3 D2 = some (.lst (((List.range i).map (ltAt (cs.map (·.1)))).map V.bl)) ∧ Same H2 H3) ⟨upd_same, same_upd nD2⟩ ?_ ?_
          · rintro i H3 hi ⟨hD3, s3⟩
            obtain ⟨v1, f1, g1⟩ := hus.get (i := i) (d := chI cs[i]) (by rw [List.getElem?_map, List.getElem?_eq_getElem (by omega)]; rfl)
            obtain ⟨v2, f2, g2⟩ := hus.get (i := i + 1) (d := chI cs[i + 1]) (by rw [List.getElem?_map, List.getElem?_eq_getElem (by omega)]; rfl)
            have g1 := (g1.keep s2).keep s3
            have g2 := (g2.keep s2).keep s3
            simp only [chI, At, AtL] at g1 g2
            obtain ⟨b1, z1, rfl, hb1, _, _, rfl, rfl, _, _, rfl, rfl, _, _, rfl, rfl, rfl⟩ := g1
            obtain ⟨b2, z2, rfl, hb2, _, _, rfl, rfl, _, _, rfl, rfl, _, _, rfl, rfl, rfl⟩ := g2
            have h1 : atI us (1 + (i : Int) - 1) = some (.ref b1) := by
              rw [show 1 + (i : Int) - 1 = (i : Int) by omega]
              exact atI_nat f1
            have h2 : atI us (1 + (i : Int)) = some (.ref b2) := by
              rw [show 1 + (i : Int) = ((i + 1 : Nat) : Int) by omega]
              exact atI_nat f2
            have hq3 := s3 _ _ hq2
            refine ⟨rfl, iteT (B := True) ?_⟩
            refine ⟨_, rfl, _, rfl, _, _, rfl, rfl, q, _, _, _, rfl, rfl, SqT.of hq3, h1, b1, _, _, _, rfl, rfl, SqT.of hb1, atI_nat (j := 0) rfl, ?_⟩
            refine ⟨_, rfl, _, rfl, q, _, _, _, rfl, rfl, SqT.of hq3, h2, b2, _, _, _, rfl, rfl, SqT.of hb2, atI_nat (j := 0) rfl, ?_⟩
            refine ⟨_, _, rfl, rfl, _, hD3, ?_, ?_, same_off nD2 s3⟩
            · rw [List.length_map, List.length_map, List.length_range]
              exact sz6' (by omega)
            · rw [upd_same, List.range_succ, List.map_append, List.map_append]
              have : ltAt (cs.map (·.1)) i = decide (cs[i].1.cps.toList < cs[i + 1].1.cps.toList) := by
                unfold ltAt
                rw [List.getElem?_map, List.getElem?_map, List.getElem?_eq_getElem (by omega), List.getElem?_eq_getElem (by omega)]
                rfl
              show _ = some (HO.lst (_ ++ [V.bl (ltAt (cs.map (·.1)) i)]))
              rw [this]
          · rintro H3 ⟨hD3, s3⟩
            refine ⟨D2, _, rfl, SqL.of hD3, ?_⟩
            have e3 : ((List.range (cs.length - 1)).map (ltAt (cs.map (·.1)))).all id = ascB (cs.map (·.1)) := by
              rw [asc_all, List.length_map, List.all_map]
              rfl
            rw [e3]
            exact k _ (Same.trans s2 s3)
end
end OS

namespace OS
open PySem PySem.Spec PyProof.Rows L2
/-- a comprehension over zip of two tuples of one length -/
theorem lc_zipTT {K : PySem.W.Frag} {a b : Addr} {xs ys : List V} {g : TG} {tt : TT} {te : TE} {vs : List Nat} {σ : L2.St} {H1 : Hp} {D : Addr} {Qd : Hp → Prop} (hl : xs.length = ys.length) (Pv : Nat → Hp → Prop) (h0 : Pv 0 (upd H1 D (.lst []))) (hq : ∀ i H, i ≤ xs.length → Pv i H → SqT K H a xs ∧ SqT K H b ys)
    (hs : ∀ (i : Nat) (x y : V) (T : Addr) (H : Hp), xs[i]? = some x → ys[i]? = some y → Pv i H → H T = none → g (.ref T) (wipe σ vs) (upd H T (.tup [x, y])) fun σ2 H2 => wipe σ2 vs = wipe σ vs ∧ tt σ2 H2 fun b H3 =>
      if b = true then te σ2 H3 fun y H4 => ∃ acc, H4 D = some (.lst acc) ∧ acc.length < sizeLine ∧ Pv (i + 1) (upd H4 D (.lst (acc ++ [y]))) else Pv (i + 1) H3) (hd : ∀ H, Pv xs.length H → Qd H) :
    ∃ W : Nat → Nat → Hp → Prop, (∃ m, W 0 m (upd H1 D (.lst []))) ∧ ∀ i m H, W i m H →
      ((RZ.ItzT K a b).stop i H ∧ Qd H) ∨ ((RZ.ItzT K a b).go i H ∧ ∃ Nx : Hp → Prop, (∀ H', Nx H' → ∃ m', m' < m ∧ W (i + 1) m' H') ∧ ∀ x H', (RZ.ItzT K a b).yld i H x H' → g x (wipe σ vs) H' fun σ2 H2 => wipe σ2 vs = wipe σ vs ∧ tt σ2 H2 fun b H3 =>
        if b = true then te σ2 H3 fun y H4 => ∃ acc, H4 D = some (.lst acc) ∧ acc.length < sizeLine ∧ Nx (upd H4 D (.lst (acc ++ [y]))) else Nx H3) := by
  refine ⟨fun i m H => m = xs.length - i ∧ i ≤ xs.length ∧ Pv i H, ⟨xs.length, by simp, Nat.zero_le _, h0⟩, ?_⟩
  rintro i m H ⟨rfl, hi, p⟩
  obtain ⟨qx, qy⟩ := hq i H hi p
  by_cases hlt : i < xs.length
  · have hx : xs[i]? = some xs[i] := List.getElem?_eq_getElem hlt
    have hy : ys[i]? = some (ys[i]'(hl ▸ hlt)) := List.getElem?_eq_getElem (hl ▸ hlt)
    refine .inr ⟨⟨xs, ys, _, _, qx, qy, hx, hy⟩, Pv (i + 1), fun H' p' => ⟨xs.length - (i + 1), by omega, rfl, hlt, p'⟩, fun v H' y => ?_⟩
    obtain ⟨T, x, z, rfl, hT, rfl, e1, e2⟩ := y
    have e1 := e1 xs qx
    have e2 := e2 ys qy
    exact hs i x z T H e1 e2 p hT
  · have e : i = xs.length := by omega
    subst e
    exact .inl ⟨⟨xs, ys, qx, qy, .inl (Nat.le_refl _)⟩, hd H p⟩
theorem inV_str (x : Str) : ∀ (cs : List Str), inV (.str x) (cs.map V.str) = decide (x ∈ cs)
  | [] => by simp [inV]
  | c :: cs => by
    have ih := inV_str x cs
    unfold inV at ih ⊢
    rw [List.map_cons, List.any_cons, ih]
    have e : eqV (.str c) (.str x) = decide (c = x) := by
      show (c == x) = _
      by_cases h : c = x
      · rw [decide_eq_true h]; exact beq_iff_eq.mpr h
      · rw [decide_eq_false h]; exact beq_eq_false_iff_ne.mpr h
    rw [e]
    by_cases h : c = x
    · subst h; simp
    · rw [decide_eq_false h, Bool.false_or]
      refine decide_eq_decide.mpr ⟨fun q => List.mem_cons_of_mem _ q, fun q => ?_⟩
      rcases List.mem_cons.mp q with q | q
      · exact absurd q.symm h
      · exact q
theorem flat_strs (l : List Str) : (l.map V.str).all flatV = true := by
  rw [List.all_map, List.all_eq_true]
  intro _ _
  rfl
theorem cutT (x : V) (r : List V) : cutV (x :: r) (some 1) none = r := by
  unfold cutV
  rw [show (1 : Int) = ((1 : Nat) : Int) from rfl, HT.sIx_nat, HT.sIx_none]
  have e : min 1 (x :: r).length = 1 := by rw [List.length_cons]; omega
  rw [e, List.drop_succ_cons, List.drop_zero, List.take_of_length_le]
  rw [List.length_cons]
  omega
theorem six1 (x : V) (r : List V) : ¬ HT.sIx (x :: r).length 0 (some 1) = 0 := by
  rw [show (1 : Int) = ((1 : Nat) : Int) from rfl, HT.sIx_nat, List.length_cons]
  omega
section
variable {P : Program} {w : World} {K : PySem.W.Frag} {mg : Str → Option Value} {base : Heap}
def spPart (K : PySem.W.Frag) : Sp := fun vs H Q _ => ∃ (sort : Str) (v : V) (e : Addr) (ends : List Str) (b : Int) (p : Par), vs = [.str sort, v, .ref e, .int b] ∧ At K H p.dt v ∧ SqT K H e (ends.map V.str) ∧
  (sort = "answer" → ∃ z, p = .s z) ∧ (∀ cs, p = .c cs → cs.length ≤ 10) ∧ ∀ H', Same H H' → Q (.bl (okPart ends b sort p)) H'
theorem ok_is_part {f : Addr} {fd : FuncData} (F : Fun K "is_part" "is_part" s_is_part f fd) (T : Txt K mg) (TC : CodTxt K w mg) {f_is_number : Addr} {d_is_number : FuncData} (c_is_number : Cal P w K mg base 1 "is_number" ["part", "bound"] (spNum K) f_is_number d_is_number) {f_are_choices : Addr} {d_are_choices : FuncData} (c_are_choices : Cal P w K mg base 3 "are_choices" ["part", "many"] (spChoices K) f_are_choices d_are_choices) : FnOk P w K mg base CX0 4 f fd ["sort", "part", "ends", "many"] (spPart K) := by
  refine F.ok sc_is_part (fun vs H Q E h => ?_) (fun cdv A outer s H vs Q E hr h => ?_)
  · obtain ⟨sort, v, e, ends, b, p, rfl, _⟩ := h
    rfl
  · obtain ⟨sort, v, e, ends, b, p, rfl, hv, he, ha, hc, k⟩ := h
    obtain ⟨t2, m_MODULUS⟩ := TC.mMOD
    obtain ⟨aA, m_ANSWERS, hA⟩ := TC.mANS
    refine ⟨_, (pss_cons (ps_if (pt_cmpR op_eq (pv 0) pe_str (nomark _)) (pss_one (ps_ret (pe_call c_is_number.G (hr.mono (by decide)) (by rfl) c_is_number.m c_is_number.k c_is_number.b .nil pass0 (pa_cons (pv 1) (pa_cons (pe_glob rfl m_MODULUS relI) pa_nil))))) pss_nil)
      (pss_cons (ps_if (pt_cmpR op_eq (pv 0) pe_str (nomark _)) (pss_one (ps_ret (pe_call c_is_number.G (hr.mono (by decide)) (by rfl) c_is_number.m c_is_number.k c_is_number.b .nil pass0 (pa_cons (pv 1) (pa_cons (pv 3) pa_nil))))) pss_nil)
      (pss_cons (ps_if (pt_cmpR op_eq (pv 0) pe_str (nomark _)) (pss_one (ps_ret (pe_call c_are_choices.G (hr.mono (by decide)) (by rfl) c_are_choices.m c_are_choices.k c_are_choices.b .nil pass0 (pa_cons (pv 1) (pa_cons (pv 3) pa_nil))))) pss_nil)
      (pss_cons (ps_if (pt_cmpR op_eq (pv 0) pe_str (nomark _)) (pss_one (ps_ret (pe_cmpR op_in_seq (pv 1) (pe_glob rfl m_ANSWERS relR) (by rfl)))) pss_nil)
      (pss_one (ps_ret (pe_and (pe_callB call_isi (by rfl) T.isinstance (by decide +kernel) (pa_cons (pv 1) (pa_cons (pe_bltn (v := .ty "str") (u := Value.type "str") (by rfl) T.str (by decide +kernel) rfl) pa_nil))) (pe_one (pe_or (pe_cmpR op_eq (pv 0) pe_str (nomark _)) (pe_one (pe_cmpR op_in_seq (pv 1) (pv 2) (by rfl)))))))))))), ?_⟩
    have rf : Same H H := fun _ _ e => e
    have k0 := k H rf
    unfold okPart at k0 k
    refine ⟨_, rfl, rfl, _, rfl, ?_⟩
    rw [str_eqV]
    by_cases c1 : sort = "number"
    · rw [if_pos c1] at k0
      rw [decide_eq_true c1]
      exact iteT ⟨_, rfl, v, _, p, rfl, hv, k0⟩
    rw [decide_eq_false c1]
    rw [if_neg c1] at k0
    refine iteF ⟨_, rfl, rfl, _, rfl, ?_⟩
    rw [str_eqV]
    by_cases c2 : sort = "goal"
    · rw [if_pos c2] at k0
      rw [decide_eq_true c2]
      exact iteT ⟨_, rfl, _, rfl, v, b, p, rfl, hv, k0⟩
    rw [decide_eq_false c2]
    rw [if_neg c2] at k0
    refine iteF ⟨_, rfl, rfl, _, rfl, ?_⟩
    rw [str_eqV]
    by_cases c3 : sort = "choices"
    · rw [decide_eq_true c3]
      refine iteT ⟨_, rfl, _, rfl, v, b, p, rfl, hv, hc, fun H' s' => ?_⟩
      have := k H' s'
      rw [if_neg c1, if_neg c2, if_pos c3] at this
      exact this
    rw [decide_eq_false c3]
    rw [if_neg c3] at k0
    refine iteF ⟨_, rfl, rfl, _, rfl, ?_⟩
    rw [str_eqV]
    by_cases c4 : sort = "answer"
    · rw [decide_eq_true c4]
      rw [if_pos c4] at k0
      obtain ⟨z, rfl⟩ := ha c4
      simp only [Par.dt, At] at hv
      subst hv
      refine iteT ⟨_, rfl, aA, _, rfl, .inr (hA _), rfl, rfl, ?_⟩
      have e3 : inV (.str z) (ansL.map V.str) = decide (z = "yes" ∨ z = "no") := by
        refine (inV_str z ansL).trans (decide_eq_decide.mpr ?_)
        unfold ansL
        simp
      show Q (.bl (if false = true then !inV (.str z) (ansL.map V.str) else inV (.str z) (ansL.map V.str))) H
      rw [if_neg (by decide), e3]
      exact k0
    rw [decide_eq_false c4]
    rw [if_neg c4] at k0
    refine iteF ?_
    cases p with
    | n i =>
      simp only [Par.dt, At] at hv
      subst hv
      exact ⟨_, rfl, _, _, .type "int", .type "str", false, rfl, .ty _, .base (.int i), kit_ty (by decide +kernel), false, rfl, iteF k0⟩
    | c cs =>
      simp only [Par.dt, At] at hv
      obtain ⟨q, us, rfl, hq, _⟩ := hv
      exact ⟨_, rfl, _, _, .type "tuple", .type "str", false, rfl, .ty _, .base (.tup hq), kit_ty (by decide +kernel), false, rfl, iteF k0⟩
    | s z =>
      simp only [Par.dt, At] at hv
      subst hv
      refine ⟨_, rfl, _, _, .type "str", .type "str", true, rfl, .ty _, .base (.str z), kit_ty (by decide +kernel), true, rfl, iteT ?_⟩
      have k0 : Q (.bl (decide (sort = "name" ∨ z ∈ ends))) H := k0
      refine ⟨_, rfl, rfl, _, rfl, ?_⟩
      rw [str_eqV]
      by_cases c5 : sort = "name"
      · rw [decide_eq_true (.inl c5)] at k0
        rw [decide_eq_true c5]
        exact iteT k0
      · rw [decide_eq_false c5]
        refine iteF ⟨_, rfl, _, rfl, e, _, rfl, .inr he, rfl, flat_strs _, ?_⟩
        show Q (.bl (if false = true then !inV (.str z) (ends.map V.str) else inV (.str z) (ends.map V.str))) H
        rw [if_neg (by decide), inV_str]
        have e4 : decide (sort = "name" ∨ z ∈ ends) = decide (z ∈ ends) := decide_eq_decide.mpr ⟨fun q => q.resolve_left c5, .inr⟩
        rw [e4] at k0
        exact k0
def spInst (K : PySem.W.Frag) : Sp := fun vs H Q _ => ∃ (v : V) (e : Addr) (ends : List Str) (b : Int) (a : I24), vs = [v, .ref e, .int b] ∧ At K H a.dt v ∧ SqT K H e (ends.map V.str) ∧ Wf a ∧ ∀ H', Same H H' → Q (.bl (okIns ends b a)) H'
theorem labs_len {cs : List (Str × Str × Int)} (h : cs.map (·.1) ∈ labs) : cs.length ≤ 10 := by
  have q : ∀ l ∈ labs, l.length ≤ 10 := by decide +kernel
  have := q _ h
  rwa [List.length_map] at this
theorem ok_is_instruction {f : Addr} {fd : FuncData} (F : Fun K "is_instruction" "is_instruction" s_is_instruction f fd) (T : Txt K mg) (TC : CodTxt K w mg) {f_is_part : Addr} {d_is_part : FuncData} (c_is_part : Cal P w K mg base 4 "is_part" ["sort", "part", "ends", "many"] (spPart K) f_is_part d_is_part) : FnOk P w K mg base CX0 5 f fd ["instruction", "ends", "many"] (spInst K) := by
  refine F.ok sc_is_instruction (fun vs H Q E h => ?_) (fun cdv A outer s H vs Q E hr h => ?_)
  · obtain ⟨v, e, ends, b, a, rfl, _⟩ := h
    rfl
  · obtain ⟨v, e, ends, b, a, rfl, hv, he, hw, k⟩ := h
    obtain ⟨dF, esF, nF, m_FORMS, hD, hno, hyes⟩ := TC.mFOR
    have hD_FORMS := hD
    obtain ⟨w0, ps⟩ := a
    have hv0 := hv
    simp only [I24.dt, At, AtL] at hv0
    obtain ⟨p, us, rfl, hp, _, r, rfl, rfl, hr'⟩ := hv0
    have lr := hr'.length
    rw [List.length_map] at lr
    refine ⟨_, (pss_cons (ps_set (i := 3) sc_is_instruction.nd rfl (.inl rfl) (pe_ix ix_tup (pv 0) pe_int (fun _ _ => rfl)))
      (pss_cons (ps_if (PW.pt (pw_or (pt_cmpR (op_notIn_kd hD_FORMS) (pv 3) (pe_glob rfl m_FORMS relR) (by rfl)) (pw_or1 (pt_cmpR op_ne (pe_callB call_len_seq (by rfl) T.len PySem.boot_len (pa_cons (pv 0) pa_nil)) (pe_op op_add (pe_callB call_len_seq (by rfl) T.len PySem.boot_len (pa_cons (pe_ix ix_kdict (pe_glob rfl m_FORMS relR) (pv 3) (fun _ _ => rfl)) pa_nil)) pe_int) (nomark _))))) (pss_one (ps_ret pe_bl)) pss_nil)
      (pss_one (ps_ret (pe_callB (cr_all (by rfl)) (by rfl) T.all (by decide +kernel) (pa_cons (pe_lc (own := [("sort", 4), ("part", 5)]) (g := gTup K 2 (gCons (gName 4) (gCons (gName 5) gNil))) (by rfl) sc_is_instruction.nd (RZ.pi_zipA (by rfl) T.zip (pa_cons (pe_ix ix_kdict (pe_glob rfl m_FORMS relR) (pv 3) (fun _ _ => rfl)) (pa_cons (pe_slice sl_tupA (pv 0) (po_some pe_int) po_none) pa_nil))) (blkOk_by (N := ["instruction", "ends", "many", "word", "sort", "part"]) (sc := defScope s_is_instruction) (by decide +kernel)) (fun _ _ _ _ _ => pg_tup (by rfl) (pgs_cons (pg_name (i := 4) sc_is_instruction.nd rfl (by first | exact Or.inl rfl | exact Or.inr rfl)) (pgs_cons (pg_name (i := 5) sc_is_instruction.nd rfl (by first | exact Or.inl rfl | exact Or.inr rfl)) pgs_nil))) (fun _ _ _ _ _ => pts_nil) (fun _ _ _ _ _ => (pe_call c_is_part.G (hr.mono (by decide)) (by rfl) c_is_part.m c_is_part.k c_is_part.b .nil pass0 (pa_cons (pv 4) (pa_cons (pv 5) (pa_cons (pv 1) (pa_cons (pv 2) pa_nil))))))) pa_nil)))))), ?_⟩
    refine ⟨_, rfl, p, _, _, _, rfl, rfl, SqT.of hp, atI_nat (j := 0) rfl, ?_⟩
    unfold okIns at k
    cases ef : formOf w0 with
    | none =>
      have k0 := k H fun _ _ e => e
      rw [ef] at k0
      refine ⟨_, rfl, w0, none, rfl, rfl, hno w0 ef, _, rfl, ?_⟩
      exact iteT (iteT k0)
    | some ss =>
      rw [ef] at k
      have k : ∀ H', Same H H' → Q (.bl (decide (ps.length = ss.length) && (List.zipWith (okPart ends b) ss ps).all id)) H' := k
      obtain ⟨pf, hpf, hsq⟩ := hyes w0 ss ef
      have kd : KDct K w dF w0 (V.ref pf) := ⟨esF, nF, _, hD.at_, hD.lit, hpf, rfl⟩
      refine ⟨_, rfl, w0, _, rfl, rfl, hpf, _, rfl, ?_⟩
      refine iteF ⟨_, rfl, p, _, rfl, .inr (SqT.of hp), _, rfl, dF, w0, _, rfl, rfl, kd, pf, _, rfl, .inr (hsq _), _, _, rfl, rfl, rfl, _, rfl, ?_⟩
      rw [List.length_cons, List.length_map, lr]
      by_cases c1 : ps.length = ss.length
      · rw [decide_eq_true (show V.int ((ps.length + 1 : Nat) : Int) = V.int ((ss.length : Nat) + 1) by rw [c1]; rfl)]
        rw [decide_eq_true c1] at k
        refine iteF ?_
        refine ⟨_, rfl, dF, w0, _, rfl, rfl, kd, _, rfl, _, rfl, p, _, rfl, SqT.of hp, fun q => absurd q.1 (six1 _ _), fun _ t ht => ?_⟩
        rw [cutT]
        have s1 := same_upd (o := .tup r) ht
        have ht1 : (upd H t (.tup r)) t = some (.tup r) := upd_same
        have hr1 := AtL.keep s1 hr'
        have he1 := Same.tup s1 he
        generalize upd H t (.tup r) = H1 at s1 ht1 hr1 he1
        refine ⟨pf, t, _, _, rfl, .inr ⟨hsq _, SqT.of ht1, fun D nD => ?_⟩⟩
        refine lc_zipTT (K := K) (a := pf) (b := t) (xs := ss.map V.str) (ys := r) (by rw [List.length_map]; omega) (fun i H' => H' D = some (.lst (((List.zipWith (okPart ends b) ss ps).take i).map V.bl)) ∧ Same H1 H') ⟨upd_same, same_upd nD⟩ (fun i H' _ q => ⟨hsq _, SqT.of (q.2 _ _ ht1)⟩) ?_ ?_
        · rintro i x y T' H' hx hy ⟨hD', sm⟩ nT
          obtain ⟨st, e1, rfl⟩ : ∃ st, ss[i]? = some st ∧ x = .str st := by
            rw [List.getElem?_map] at hx
            cases q : ss[i]? with
            | none => rw [q] at hx; cases hx
            | some z => rw [q] at hx; exact ⟨z, rfl, (Option.some.inj hx).symm⟩
          have hi : i < ps.length := by
            have := (List.getElem?_eq_some_iff.mp hy).1
            omega
          obtain ⟨y2, f1, f2⟩ := hr1.get (i := i) (d := (ps[i]).dt) (by rw [List.getElem?_map, List.getElem?_eq_getElem hi]; rfl)
          rw [hy] at f1
          cases f1
          have sT := same_upd (o := .tup [.str st, y]) nT
          have hpm : ps[i] ∈ ps := List.getElem_mem hi
          refine ⟨T', _, rfl, SqT.of upd_same, rfl, _, _, rfl, _, _, rfl, rfl, rfl, iteT (B := True) ?_⟩
          refine ⟨_, rfl, _, rfl, _, rfl, _, rfl, st, y, e, ends, b, ps[i], rfl, (f2.keep sm).keep sT, Same.tup sT (Same.tup sm he1), fun ea => ?_, fun cs ec => ?_, fun H2 s2 => ?_⟩
          · refine hw.ts ?_ _ hpm
            have q : ∀ x ∈ forms, ("answer" : Str) ∈ x.2 → x.1 = "test" := by decide +kernel
            exact q (w0, ss) (form_words ef) (by rw [← ea]; exact List.mem_of_getElem? e1)
          · exact labs_len (hw.ch cs (by rw [← ec]; exact hpm)).1
          · refine ⟨_, s2 _ _ (sT _ _ hD'), ?_, ?_, same_off nD (Same.trans sm (Same.trans sT s2))⟩
            · rw [List.length_map, List.length_take, List.length_zipWith]
              have := hw.len
              have : ps.length ≤ 10 := this
              exact sz6' (by omega)
            · rw [upd_same, List.take_add_one, List.getElem?_zipWith, e1, List.getElem?_eq_getElem hi, List.map_append]
              rfl
        · rintro H2 ⟨hD2, sm⟩
          have el : (List.zipWith (okPart ends b) ss ps).take (ss.map V.str).length = List.zipWith (okPart ends b) ss ps := List.take_of_length_le (by rw [List.length_zipWith, List.length_map]; omega)
          rw [el] at hD2
          exact ⟨D, _, rfl, SqL.of hD2, k _ (Same.trans s1 sm)⟩
      · rw [decide_eq_false (show ¬ V.int ((ps.length + 1 : Nat) : Int) = V.int ((ss.length : Nat) + 1) from fun q => c1 (by injection q with q; omega))]
        rw [decide_eq_false c1] at k
        exact iteT (k _ fun _ _ e => e)
end
end OS

namespace OS
open PySem PySem.Spec PyProof.Rows L2
/-! ### where it goes on -/
/-- right code of the sorts that are drawn -/
structure VC (ends : List Str) (C : List I24) : Prop where
  ok : ∀ a ∈ C, okIns ends (C.length : Nat) a = true
  wf : ∀ a ∈ C, Wf a
  len : C.length ≤ 60
theorem VC.form {ends : List Str} {C : List I24} (v : VC ends C) : ∀ a ∈ C, ∃ ss, formOf a.w = some ss := fun a ha => ok_form (v.ok a ha)
theorem ok_parts {ends : List Str} {b : Int} {a : I24} {ss : List Str} (h : okIns ends b a = true) (hf : formOf a.w = some ss) : a.ps.length = ss.length ∧ ∀ (i : Nat) (s : Str) (p : Par), ss[i]? = some s → a.ps[i]? = some p → okPart ends b s p = true := by
  unfold okIns at h
  rw [hf] at h
  have h : (decide (a.ps.length = ss.length) && (List.zipWith (okPart ends b) ss a.ps).all id) = true := h
  rw [Bool.and_eq_true] at h
  refine ⟨of_decide_eq_true h.1, fun i s p e1 e2 => ?_⟩
  have := List.all_eq_true.mp h.2 (okPart ends b s p) (List.mem_of_getElem? (i := i) (by rw [List.getElem?_zipWith, e1, e2]))
  exact this
theorem num_of {ends : List Str} {b : Int} {p : Par} (h : okPart ends b "goal" p = true) : ∃ i : Int, p = .n i ∧ 0 ≤ i ∧ i < b := by
  unfold okPart at h
  rw [if_neg (by decide +kernel), if_pos rfl] at h
  cases p with
  | n i =>
    have h : (decide (0 ≤ i) && decide (i < b)) = true := h
    rw [Bool.and_eq_true] at h
    exact ⟨i, rfl, of_decide_eq_true h.1, of_decide_eq_true h.2⟩
  | s z => cases h
  | c cs => cases h
theorem one_of {ps : List Par} (h : ps.length = 1) : ∃ p, ps = [p] := by
  match ps, h with
  | [p], _ => exact ⟨p, rfl⟩
theorem two_of {ps : List Par} (h : ps.length = 2) : ∃ p q, ps = [p, q] := by
  match ps, h with
  | [p, q], _ => exact ⟨p, q, rfl⟩
theorem goal1 {ends : List Str} {b : Int} {a : I24} (h : okIns ends b a = true) (hw : a.w = "jump" ∨ a.w = "zero") : ∃ i : Int, a.ps = [.n i] ∧ 0 ≤ i ∧ i < b := by
  have hf : formOf a.w = some (["goal"] : List Str) := by rcases hw with e | e <;> rw [e] <;> decide +kernel
  obtain ⟨h1, h2⟩ := ok_parts h hf
  obtain ⟨p, e⟩ := one_of h1
  obtain ⟨i, rfl, h3⟩ := num_of (h2 0 "goal" p rfl (by rw [e]; rfl))
  exact ⟨i, e, h3⟩
theorem goal2 {ends : List Str} {b : Int} {a : I24} (h : okIns ends b a = true) (hw : a.w = "round") : ∃ (p : Par) (i : Int), a.ps = [p, .n i] ∧ 0 ≤ i ∧ i < b := by
  have hf : formOf a.w = some (["number", "goal"] : List Str) := by rw [hw]; decide +kernel
  obtain ⟨h1, h2⟩ := ok_parts h hf
  obtain ⟨p, q, e⟩ := two_of h1
  obtain ⟨i, rfl, h3⟩ := num_of (h2 1 "goal" q rfl (by rw [e]; rfl))
  exact ⟨p, i, e, h3⟩
theorem goalW {ends : List Str} {b : Int} {a : I24} (h : okIns ends b a = true) (hw : a.w = "wait") : ∃ (p : Par) (cs : List (Str × Str × Int)), a.ps = [p, .c cs] ∧ cs ≠ [] ∧ ∀ c ∈ cs, 0 ≤ c.2.2 ∧ c.2.2 < b := by
  have hf : formOf a.w = some (["end", "choices"] : List Str) := by rw [hw]; decide +kernel
  obtain ⟨h1, h2⟩ := ok_parts h hf
  obtain ⟨p, q, e⟩ := two_of h1
  have h3 := h2 1 "choices" q rfl (by rw [e]; rfl)
  unfold okPart at h3
  rw [if_neg (by decide +kernel), if_neg (by decide +kernel), if_pos rfl] at h3
  cases q with
  | n i => cases h3
  | s z => cases h3
  | c cs =>
    have h3 : (!cs.isEmpty && cs.all (goalB b) && ascB (cs.map (·.1))) = true := h3
    rw [Bool.and_eq_true, Bool.and_eq_true] at h3
    refine ⟨p, cs, e, fun z => by rw [z] at h3; exact absurd h3.1.1 (by decide), fun c hc => ?_⟩
    have := List.all_eq_true.mp h3.1.2 c hc
    unfold goalB at this
    rw [Bool.and_eq_true] at this
    exact ⟨of_decide_eq_true this.1, of_decide_eq_true this.2⟩
/-- an instruction of the code -/
theorem code_get {K : PySem.W.Frag} {H : Hp} {C : List I24} {us : List V} (h : AtL K H (C.map I24.dt) us) {i : Nat} {a : I24} (ha : C[i]? = some a) : ∃ p r, us[i]? = some (.ref p) ∧ H p = some (.tup (.str a.w :: r)) ∧ AtL K H (a.ps.map Par.dt) r := by
  obtain ⟨v, e1, e2⟩ := h.get (i := i) (d := a.dt) (by rw [List.getElem?_map, ha]; rfl)
  simp only [I24.dt, At, AtL] at e2
  obtain ⟨p, us', rfl, hp, _, r, rfl, rfl, hr⟩ := e2
  exact ⟨p, r, e1, hp, hr⟩
def CodeAt (K : PySem.W.Frag) (H : Hp) (cd : Addr) (C : List I24) : Prop := ∃ us, H cd = some (.tup us) ∧ AtL K H (C.map I24.dt) us
theorem CodeAt.keep {K : PySem.W.Frag} {H H' : Hp} {cd : Addr} {C : List I24} (s : Same H H') (h : CodeAt K H cd C) : CodeAt K H' cd C := by
  obtain ⟨us, h1, h2⟩ := h
  exact ⟨us, s _ _ h1, AtL.keep s h2⟩
section
variable {P : Program} {w : World} {K : PySem.W.Frag} {mg : Str → Option Value} {base : Heap}
def natsV (l : List Nat) : List V := l.map fun n => V.int (n : Nat)
/-- a new list of places -/
def NewL (l : List Nat) (H : Hp) (Q : VK) : Prop := ∀ (p : Addr) (H' : Hp), Same H H' → H p = none → H' p = some (.lst (natsV l)) → Q (.ref p) H'
def spGoals (K : PySem.W.Frag) (f : I24 → Nat → List Nat) : Sp := fun vs H Q _ => ∃ (cd : Addr) (ends : List Str) (C : List I24) (i : Nat) (a : I24), vs = [.ref cd, .int (i : Nat)] ∧ CodeAt K H cd C ∧ VC ends C ∧ C[i]? = some a ∧ NewL (f a i) H Q
theorem new_l {l : List Nat} {H : Hp} {Q : VK} (k : NewL l H Q) : ∀ p, H p = none → Q (.ref p) (upd H p (.lst (natsV l))) := fun p hp => k p _ (same_upd hp) hp upd_same
theorem ok_goals_behind {f : Addr} {fd : FuncData} (F : Fun K "goals_behind" "goals_behind" s_goals_behind f fd) (T : Txt K mg) : FnOk P w K mg base CX0 1 f fd ["code", "at"] (spGoals K goalsOf) := by
  refine F.ok sc_goals_behind (fun vs H Q E h => ?_) (fun cdv A outer s H vs Q E hr h => ?_)
  · obtain ⟨cd, ends, C, i, a, rfl, _⟩ := h
    rfl
  · obtain ⟨cd, ends, C, i, a, rfl, ⟨us, hcd, hus⟩, vc, ha, k⟩ := h
    obtain ⟨p, r, hu, hp, hr'⟩ := code_get hus ha
    have ok := vc.ok a (List.mem_of_getElem? ha)
    have hix : atI us ((i : Nat) : Int) = some (.ref p) := atI_nat hu
    refine ⟨_, (pss_cons (ps_set (i := 2) sc_goals_behind.nd rfl (.inl rfl) (pe_ix ix_tup (pe_ix ix_tup (pv 0) (pv 1) (fun _ _ => rfl)) pe_int (fun _ _ => rfl)))
      (pss_cons (ps_if (pt_cmpR op_eq (pv 2) pe_str (nomark _)) (pss_one (ps_ret (pe_lst pa_nil))) pss_nil)
      (pss_cons (ps_if (pt_cmpR op_eq (pv 2) pe_str (nomark _)) (pss_one (ps_ret (pe_lst (pa_cons (pe_ix ix_tup (pe_ix ix_tup (pv 0) (pv 1) (fun _ _ => rfl)) pe_int (fun _ _ => rfl)) pa_nil)))) pss_nil)
      (pss_cons (ps_if (pt_cmpR op_eq (pv 2) pe_str (nomark _)) (pss_one (ps_ret (pe_lc (own := [("choice", 3)]) (g := gName 3) (by rfl) sc_goals_behind.nd (pi_tup (pe_ix ix_tup (pe_ix ix_tup (pv 0) (pv 1) (fun _ _ => rfl)) pe_int (fun _ _ => rfl))) (blkOk_by (N := ["code", "at", "word", "choice"]) (sc := defScope s_goals_behind) (by decide +kernel)) (fun _ _ _ _ _ => pg_name (i := 3) sc_goals_behind.nd rfl (by first | exact Or.inl rfl | exact Or.inr rfl)) (fun _ _ _ _ _ => pts_nil) (fun _ _ _ _ _ => (pe_ix (show IxR _ (rIxT K) from ix_tup) (pv 3) pe_int (fun _ _ => rfl)))))) pss_nil)
      (pss_one (ps_ret (pe_ifExp (pt_cmpR op_in_seq (pv 2) (pe_tup (pa_cons pe_str (pa_cons pe_str pa_nil))) (by rfl)) (pe_lst (pa_cons (pe_ix ix_tup (pe_ix ix_tup (pv 0) (pv 1) (fun _ _ => rfl)) (pe_un un_neg pe_int) (fun _ _ => rfl)) (pa_cons (pe_op op_add (pv 1) pe_int) pa_nil))) (pe_lst (pa_cons (pe_op op_add (pv 1) pe_int) pa_nil))))))))), ?_⟩
    refine ⟨_, rfl, _, rfl, cd, _, _, _, rfl, rfl, SqT.of hcd, hix, p, _, _, _, rfl, rfl, SqT.of hp, atI_nat (j := 0) rfl, ?_⟩
    unfold goalsOf at k
    refine ⟨_, rfl, rfl, _, rfl, ?_⟩
    rw [str_eqV]
    by_cases c1 : a.w = "stop"
    · rw [decide_eq_true c1]
      rw [if_pos c1] at k
      exact iteT ⟨Nat.zero_le _, new_l k⟩
    rw [decide_eq_false c1]
    rw [if_neg c1] at k
    refine iteF ⟨_, rfl, rfl, _, rfl, ?_⟩
    rw [str_eqV]
    by_cases c2 : a.w = "jump"
    · rw [decide_eq_true c2]
      rw [if_pos c2] at k
      obtain ⟨g, eg, g0, g1⟩ := goal1 ok (.inl c2)
      rw [eg] at hr'
      simp only [List.map_cons, List.map_nil, Par.dt, At, AtL] at hr'
      obtain ⟨_, _, rfl, rfl, rfl⟩ := hr'
      refine iteT ⟨_, rfl, _, rfl, cd, _, _, _, rfl, rfl, SqT.of hcd, hix, p, _, _, _, rfl, rfl, SqT.of hp, atI_nat (j := 1) rfl, by show 1 ≤ sizeLine; decide, ?_⟩
      have e : natsV [gN (part a 0)] = [V.int g] := by
        show [V.int ((gN (part a 0) : Nat) : Int)] = _
        have : part a 0 = .n g := by unfold part; rw [eg]; rfl
        rw [this]
        show [V.int ((g.toNat : Nat) : Int)] = _
        rw [Int.toNat_of_nonneg g0]
      have q := new_l k
      rw [e] at q
      exact q
    rw [decide_eq_false c2]
    rw [if_neg c2] at k
    refine iteF ⟨_, rfl, rfl, _, rfl, ?_⟩
    rw [str_eqV]
    by_cases c3 : a.w = "wait"
    · rw [decide_eq_true c3]
      rw [if_pos c3] at k
      obtain ⟨pe, cs, ec, hne, hg⟩ := goalW ok c3
      have hp1 : part a 1 = .c cs := by unfold part; rw [ec]; rfl
      rw [hp1] at k
      rw [ec] at hr'
      simp only [List.map_cons, List.map_nil, Par.dt, At, AtL] at hr'
      obtain ⟨v1, _, rfl, _, _, _, rfl, ⟨b, zs, rfl, hb, hzs⟩, rfl⟩ := hr'
      have lz := hzs.length
      rw [List.length_map] at lz
      refine iteT ⟨_, rfl, _, rfl, cd, _, _, _, rfl, rfl, SqT.of hcd, hix, p, _, _, _, rfl, rfl, SqT.of hp, atI_nat (j := 2) rfl, b, rfl, ⟨_, SqT.of hb⟩, fun D nD => ?_⟩
      refine lc_tup (K := K) (a := b) (xs := zs) (fun j H2 => H2 D = some (.lst (natsV (((csOf (.c cs)).map (fun c => c.2.2.toNat)).take j))) ∧ Same H H2) ⟨upd_same, same_upd nD⟩ (fun j H2 _ q => SqT.of (q.2 _ _ hb)) ?_ ?_
      · rintro j x H2 hx ⟨hD, s2⟩
        have hj : j < cs.length := by
          have := (List.getElem?_eq_some_iff.mp hx).1
          omega
        obtain ⟨v, f1, f2⟩ := hzs.get (i := j) (d := chI cs[j]) (by rw [List.getElem?_map, List.getElem?_eq_getElem hj]; rfl)
        rw [hx] at f1
        cases f1
        simp only [chI, At, AtL] at f2
        obtain ⟨q, qs, rfl, hq, _, _, rfl, rfl, _, _, rfl, rfl, _, _, rfl, rfl, rfl⟩ := f2
        refine ⟨rfl, iteT (B := True) ⟨_, rfl, q, _, _, _, rfl, rfl, SqT.of (s2 _ _ hq), atI_nat (j := 2) rfl, _, hD, ?_, ?_, same_off nD s2⟩⟩
        · have w := vc.wf a (List.mem_of_getElem? ha)
          have := labs_len (w.ch cs (by rw [ec]; simp)).1
          unfold natsV
          rw [List.length_map, List.length_take, List.length_map]
          exact sz6' (by omega)
        · rw [upd_same, List.take_add_one]
          unfold natsV
          rw [List.map_append]
          have e : ((csOf (.c cs)).map (fun c => c.2.2.toNat))[j]? = some (cs[j].2.2.toNat) := by
            show (cs.map _)[j]? = _
            rw [List.getElem?_map, List.getElem?_eq_getElem hj]
            rfl
          rw [e]
          show _ = some (HO.lst (_ ++ [V.int ((cs[j].2.2.toNat : Nat) : Int)]))
          rw [Int.toNat_of_nonneg (hg _ (List.getElem_mem hj)).1]
      · rintro H2 ⟨hD, s2⟩
        have el : ((csOf (.c cs)).map (fun c => c.2.2.toNat)).take zs.length = (csOf (.c cs)).map (fun c => c.2.2.toNat) := List.take_of_length_le (by rw [List.length_map, lz]; exact Nat.le_refl _)
        rw [el] at hD
        exact k D H2 s2 nD hD
    rw [decide_eq_false c3]
    rw [if_neg c3] at k
    refine iteF ⟨_, rfl, by show 2 ≤ sizeLine; decide, fun t ht => ?_⟩
    have s1 := same_upd (o := .tup [V.str "zero", V.str "round"]) ht
    refine ⟨t, _, rfl, .inr (SqT.of upd_same), rfl, rfl, _, rfl, ?_⟩
    have e1 : inV (.str a.w) [V.str "zero", V.str "round"] = decide (a.w ∈ (["zero", "round"] : List Str)) := inV_str a.w ["zero", "round"]
    show if inV (.str a.w) [V.str "zero", V.str "round"] = true then _ else _
    rw [e1]
    have k1 : ∀ q, (upd H t (.tup [V.str "zero", V.str "round"])) q = none → H q = none := fun q hq => by
      cases z : H q with
      | none => rfl
      | some o => rw [s1 _ _ z] at hq; cases hq
    by_cases c4 : a.w = "zero"
    · rw [decide_eq_true (by rw [c4]; decide +kernel)]
      rw [if_pos c4] at k
      obtain ⟨g, eg, g0, g1⟩ := goal1 ok (.inr c4)
      rw [eg] at hr'
      simp only [List.map_cons, List.map_nil, Par.dt, At, AtL] at hr'
      obtain ⟨_, _, rfl, rfl, rfl⟩ := hr'
      refine iteT ⟨_, rfl, _, rfl, cd, _, _, _, rfl, rfl, SqT.of (s1 _ _ hcd), hix, _, rfl, p, _, _, _, rfl, rfl, SqT.of (s1 _ _ hp), atI_last [V.str a.w] _, _, rfl, _, _, rfl, rfl, by show 2 ≤ sizeLine; decide, fun q hq => ?_⟩
      have e : natsV [gN (part a 0), i + 1] = [V.int g, V.int ((i : Int) + 1)] := by
        show [V.int ((gN (part a 0) : Nat) : Int), V.int ((i + 1 : Nat) : Int)] = _
        have : part a 0 = .n g := by unfold part; rw [eg]; rfl
        rw [this]
        show [V.int ((g.toNat : Nat) : Int), _] = _
        rw [Int.toNat_of_nonneg g0]
        rfl
      refine k q _ (Same.trans s1 (same_upd hq)) (k1 q hq) ?_
      rw [upd_same, e]
    rw [if_neg c4] at k
    by_cases c5 : a.w = "round"
    · rw [decide_eq_true (by rw [c5]; decide +kernel)]
      rw [if_pos c5] at k
      obtain ⟨pp, g, eg, g0, g1⟩ := goal2 ok c5
      rw [eg] at hr'
      simp only [List.map_cons, List.map_nil, Par.dt, At, AtL] at hr'
      obtain ⟨v1, _, rfl, _, _, _, rfl, rfl, rfl⟩ := hr'
      refine iteT ⟨_, rfl, _, rfl, cd, _, _, _, rfl, rfl, SqT.of (s1 _ _ hcd), hix, _, rfl, p, _, _, _, rfl, rfl, SqT.of (s1 _ _ hp), atI_last [V.str a.w, v1] _, _, rfl, _, _, rfl, rfl, by show 2 ≤ sizeLine; decide, fun q hq => ?_⟩
      have e : natsV [gN (part a 1), i + 1] = [V.int g, V.int ((i : Int) + 1)] := by
        show [V.int ((gN (part a 1) : Nat) : Int), V.int ((i + 1 : Nat) : Int)] = _
        have : part a 1 = .n g := by unfold part; rw [eg]; rfl
        rw [this]
        show [V.int ((g.toNat : Nat) : Int), _] = _
        rw [Int.toNat_of_nonneg g0]
        rfl
      refine k q _ (Same.trans s1 (same_upd hq)) (k1 q hq) ?_
      rw [upd_same, e]
    · rw [if_neg c5] at k
      rw [decide_eq_false (fun z => by
        rcases List.mem_cons.mp z with z | z
        · exact c4 z
        · exact c5 (List.mem_singleton.mp z))]
      refine iteF ⟨_, rfl, _, _, rfl, rfl, by show 1 ≤ sizeLine; decide, fun q hq => ?_⟩
      refine k q _ (Same.trans s1 (same_upd hq)) (k1 q hq) ?_
      rw [upd_same]
      rfl
theorem ok_quiet_goals {f : Addr} {fd : FuncData} (F : Fun K "quiet_goals" "quiet_goals" s_quiet_goals f fd) (T : Txt K mg) (TC : CodTxt K w mg) {f_goals_behind : Addr} {d_goals_behind : FuncData} (c_goals_behind : Cal P w K mg base 1 "goals_behind" ["code", "at"] (spGoals K goalsOf) f_goals_behind d_goals_behind) : FnOk P w K mg base CX0 2 f fd ["code", "at"] (spGoals K quietOf) := by
  refine F.ok sc_quiet_goals (fun vs H Q E h => ?_) (fun cdv A outer s H vs Q E hr h => ?_)
  · obtain ⟨cd, ends, C, i, a, rfl, _⟩ := h
    rfl
  · obtain ⟨cd, ends, C, i, a, rfl, hC, vc, ha, k⟩ := h
    obtain ⟨us, hcd, hus⟩ := id hC
    obtain ⟨p, r, hu, hp, hr'⟩ := code_get hus ha
    have hix : atI us ((i : Nat) : Int) = some (.ref p) := atI_nat hu
    obtain ⟨dS, esS, nS, m_SIGNS, hD_SIGNS, hno, hyes⟩ := TC.mSIG
    refine ⟨_, (pss_cons (ps_set (i := 2) sc_quiet_goals.nd rfl (.inl rfl) (pe_ix ix_tup (pe_ix ix_tup (pv 0) (pv 1) (fun _ _ => rfl)) pe_int (fun _ _ => rfl)))
      (pss_cons (ps_if (pt_cmpR op_eq (pv 2) pe_str (nomark _)) (pss_one (ps_ret (pe_lst (pa_cons (pe_op op_add (pv 1) pe_int) pa_nil)))) pss_nil)
      (pss_one (ps_ret (pe_ifExp (PW.pt (pw_or (pt_cmpR op_in_seq (pv 2) (pe_tup (pa_cons pe_str (pa_cons pe_str (pa_cons pe_str (pa_cons pe_str pa_nil))))) (by rfl)) (pw_or1 (pt_cmpR (op_in_kd hD_SIGNS) (pv 2) (pe_glob rfl m_SIGNS relR) (by rfl))))) (pe_call c_goals_behind.G (hr.mono (by decide)) (by rfl) c_goals_behind.m c_goals_behind.k c_goals_behind.b .nil pass0 (pa_cons (pv 0) (pa_cons (pv 1) pa_nil))) (pe_lst pa_nil)))))), ?_⟩
    refine ⟨_, rfl, _, rfl, cd, _, _, _, rfl, rfl, SqT.of hcd, hix, p, _, _, _, rfl, rfl, SqT.of hp, atI_nat (j := 0) rfl, ?_⟩
    unfold quietOf at k
    refine ⟨_, rfl, rfl, _, rfl, ?_⟩
    rw [str_eqV]
    by_cases c1 : a.w = "round"
    · rw [decide_eq_true c1]
      rw [if_pos c1] at k
      exact iteT ⟨_, rfl, _, _, rfl, rfl, by show 1 ≤ sizeLine; decide, new_l k⟩
    rw [decide_eq_false c1]
    rw [if_neg c1] at k
    refine iteF ⟨_, rfl, by show 4 ≤ sizeLine; decide, fun t ht => ?_⟩
    have s1 := same_upd (o := .tup [V.str "push", V.str "load", V.str "jump", V.str "zero"]) ht
    refine ⟨t, _, rfl, .inr (SqT.of upd_same), rfl, rfl, _, rfl, ?_⟩
    have e1 : inV (.str a.w) [V.str "push", V.str "load", V.str "jump", V.str "zero"] = decide (a.w ∈ (["push", "load", "jump", "zero"] : List Str)) := inV_str a.w ["push", "load", "jump", "zero"]
    show if inV (.str a.w) [V.str "push", V.str "load", V.str "jump", V.str "zero"] = true then _ else _
    rw [e1]
    have hC1 := hC.keep s1
    generalize upd H t (.tup [V.str "push", V.str "load", V.str "jump", V.str "zero"]) = H1 at s1 hC1
    have kk : ∀ l, NewL l H Q → NewL l H1 Q := fun l k q H' s' hq e => k q H' (Same.trans s1 s') (by
      cases z : H q with
      | none => rfl
      | some o => rw [s1 _ _ z] at hq; cases hq) e
    have yes : ∀ (h : a.w ∈ (["push", "load", "jump", "zero"] : List Str) ∨ a.w ∈ signW), NewL (goalsOf a i) H1 Q := fun h => by
      rw [if_pos h] at k
      exact kk _ k
    by_cases c2 : a.w ∈ (["push", "load", "jump", "zero"] : List Str)
    · rw [decide_eq_true c2]
      exact iteT (iteT ⟨_, rfl, _, rfl, cd, ends, C, i, a, rfl, hC1, vc, ha, yes (.inl c2)⟩)
    rw [decide_eq_false c2]
    refine iteF ?_
    by_cases c3 : a.w ∈ signW
    · obtain ⟨v, hv⟩ := hyes a.w c3
      exact ⟨_, rfl, a.w, _, rfl, rfl, hv, _, rfl, iteT ⟨_, rfl, _, rfl, cd, ends, C, i, a, rfl, hC1, vc, ha, yes (.inr c3)⟩⟩
    · have k0 : NewL [] H1 Q := by
        rw [if_neg (fun z => z.elim c2 c3)] at k
        exact kk _ k
      exact ⟨_, rfl, a.w, none, rfl, rfl, hno a.w c3, _, rfl, iteF ⟨Nat.zero_le _, new_l k0⟩⟩
def spHb : Sp := fun vs H Q _ => ∃ (z : Str) (h : Int), vs = [.str z, .int h] ∧ ∀ H', Same H H' → Q (.int (hbW z h)) H'
theorem ok_height_behind {f : Addr} {fd : FuncData} (F : Fun K "height_behind" "height_behind" s_height_behind f fd) (T : Txt K mg) (TC : CodTxt K w mg) : FnOk P w K mg base CX0 1 f fd ["word", "height"] spHb := by
  refine F.ok sc_height_behind (fun vs H Q E h => ?_) (fun cdv A outer s H vs Q E hr h => ?_)
  · obtain ⟨z, h, rfl, _⟩ := h
    rfl
  · obtain ⟨z, h, rfl, k⟩ := h
    obtain ⟨dS, esS, nS, m_SIGNS, hD_SIGNS, hno, hyes⟩ := TC.mSIG
    refine ⟨_, (pss_cons (ps_if (pt_cmpR op_in_seq (pv 0) (pe_tup (pa_cons pe_str (pa_cons pe_str pa_nil))) (by rfl)) (pss_one (ps_ret (pe_ifExp (pt_cmpR op_gt (pv 1) pe_int (nomark _)) (pe_un un_neg pe_int) pe_int))) pss_nil)
      (pss_cons (ps_if (pt_cmpR (op_in_kd hD_SIGNS) (pv 0) (pe_glob rfl m_SIGNS relR) (by rfl)) (pss_one (ps_ret (pe_ifExp (pt_cmpR op_gt (pv 1) pe_int (nomark _)) (pe_op op_sub (pv 1) pe_int) (pe_un un_neg pe_int)))) pss_nil)
      (pss_cons (ps_if (pt_cmpR op_in_seq (pv 0) (pe_tup (pa_cons pe_str (pa_cons pe_str pa_nil))) (by rfl)) (pss_one (ps_ret (pe_op op_add (pv 1) pe_int))) pss_nil)
      (pss_one (ps_ret (pe_ifExp (pt_cmpR op_in_seq (pv 0) (pe_tup (pa_cons pe_str (pa_cons pe_str (pa_cons pe_str pa_nil)))) (by rfl)) (pe_op op_sub (pv 1) pe_int) (pv 1))))))), ?_⟩
    unfold hbW at k
    refine ⟨_, rfl, by show 2 ≤ sizeLine; decide, fun t ht => ?_⟩
    have s1 := same_upd (o := .tup [V.str "stop", V.str "wait"]) ht
    refine ⟨t, _, rfl, .inr (SqT.of upd_same), rfl, rfl, _, rfl, ?_⟩
    show if inV (.str z) [V.str "stop", V.str "wait"] = true then _ else _
    rw [show inV (.str z) [V.str "stop", V.str "wait"] = decide (z ∈ (["stop", "wait"] : List Str)) from inV_str z ["stop", "wait"]]
    by_cases c1 : z ∈ (["stop", "wait"] : List Str)
    · rw [decide_eq_true c1]
      rw [if_pos c1] at k
      refine iteT ⟨_, rfl, _, _, rfl, rfl, _, rfl, ?_⟩
      by_cases d : h > 0
      · rw [decide_eq_true (show (0 : Int) < h from d)]
        rw [if_pos d] at k
        exact iteT ⟨_, rfl, k _ s1⟩
      · rw [decide_eq_false (show ¬ (0 : Int) < h from d)]
        rw [if_neg d] at k
        exact iteF (k _ s1)
    rw [decide_eq_false c1]
    rw [if_neg c1] at k
    refine iteF ?_
    by_cases c2 : z ∈ signW
    · rw [if_pos c2] at k
      obtain ⟨v, hv⟩ := hyes z c2
      refine ⟨_, rfl, z, _, rfl, rfl, hv, _, rfl, iteT ⟨_, rfl, _, _, rfl, rfl, _, rfl, ?_⟩⟩
      by_cases d : h > 1
      · rw [decide_eq_true (show (1 : Int) < h from d)]
        rw [if_pos d] at k
        exact iteT ⟨_, rfl, _, _, rfl, rfl, k _ s1⟩
      · rw [decide_eq_false (show ¬ (1 : Int) < h from d)]
        rw [if_neg d] at k
        exact iteF ⟨_, rfl, k _ s1⟩
    rw [if_neg c2] at k
    refine ⟨_, rfl, z, none, rfl, rfl, hno z c2, _, rfl, iteF ?_⟩
    refine ⟨_, rfl, by show 2 ≤ sizeLine; decide, fun t2 ht2 => ?_⟩
    have s2 := Same.trans s1 (same_upd (o := .tup [V.str "push", V.str "load"]) ht2)
    refine ⟨t2, _, rfl, .inr (SqT.of upd_same), rfl, rfl, _, rfl, ?_⟩
    show if inV (.str z) [V.str "push", V.str "load"] = true then _ else _
    rw [show inV (.str z) [V.str "push", V.str "load"] = decide (z ∈ (["push", "load"] : List Str)) from inV_str z ["push", "load"]]
    by_cases c3 : z ∈ (["push", "load"] : List Str)
    · rw [decide_eq_true c3]
      rw [if_pos c3] at k
      exact iteT ⟨_, rfl, _, _, rfl, rfl, k _ s2⟩
    rw [decide_eq_false c3]
    rw [if_neg c3] at k
    refine iteF ⟨_, rfl, by show 3 ≤ sizeLine; decide, fun t3 ht3 => ?_⟩
    have s3 := Same.trans s2 (same_upd (o := .tup [V.str "store", V.str "zero", V.str "emit"]) ht3)
    refine ⟨t3, _, rfl, .inr (SqT.of upd_same), rfl, rfl, _, rfl, ?_⟩
    show if inV (.str z) [V.str "store", V.str "zero", V.str "emit"] = true then _ else _
    rw [show inV (.str z) [V.str "store", V.str "zero", V.str "emit"] = decide (z ∈ (["store", "zero", "emit"] : List Str)) from inV_str z ["store", "zero", "emit"]]
    by_cases c4 : z ∈ (["store", "zero", "emit"] : List Str)
    · rw [decide_eq_true c4]
      rw [if_pos c4] at k
      exact iteT ⟨_, rfl, _, _, rfl, rfl, k _ s3⟩
    · rw [decide_eq_false c4]
      rw [if_neg c4] at k
      exact iteF ⟨_, rfl, k _ s3⟩
end
end OS

namespace OS
open PySem PySem.Spec PyProof.Rows L2
/-! ### heights -/
def dkv (D : List (Nat × Int)) : List (Key × V) := D.map fun p => (Sum.inl (p.1 : Int), V.int p.2)
theorem dkv_none {D : List (Nat × Int)} {a : Nat} (h : a ∉ D.map (·.1)) : valV (dkv D) (Sum.inl (a : Int)) = none := by
  induction D with
  | nil => rfl
  | cons p D ih =>
    rw [List.map_cons, List.mem_cons] at h
    show valV ((Sum.inl (p.1 : Int), V.int p.2) :: dkv D) _ = _
    rw [valV_neg (fun q => h (.inl (by injection q with q; omega)))]
    exact ih fun z => h (.inr z)
theorem dkv_some {D : List (Nat × Int)} {a : Nat} {h : Int} (nd : (D.map (·.1)).Nodup) (m : (a, h) ∈ D) : valV (dkv D) (Sum.inl (a : Int)) = some (.int h) := by
  induction D with
  | nil => cases m
  | cons p D ih =>
    rw [List.map_cons, List.nodup_cons] at nd
    show valV ((Sum.inl (p.1 : Int), V.int p.2) :: dkv D) _ = _
    rcases List.mem_cons.mp m with e | m
    · rw [valV_pos (by rw [← e])]
      rw [← e]
    · rw [valV_neg (fun q => nd.1 (by
        injection q with q
        have : p.1 = a := by omega
        rw [this]
        exact List.mem_map.mpr ⟨_, m, rfl⟩))]
      exact ih nd.2 m
theorem dkv_put {D : List (Nat × Int)} {a : Nat} {h : Int} (hn : a ∉ D.map (·.1)) : putK (dkv D) (Sum.inl (a : Int)) (.int h) = dkv (D ++ [(a, h)]) := by
  rw [put_new (dkv_none hn)]
  unfold dkv
  rw [List.map_append]
  rfl
section
variable {P : Program} {w : World} {K : PySem.W.Frag} {mg : Str → Option Value} {base : Heap}
def spHeights (K : PySem.W.Frag) : Sp := fun vs H Q _ => ∃ (cd : Addr) (ends : List Str) (C : List I24), vs = [.ref cd] ∧ CodeAt K H cd C ∧ VC ends C ∧ 0 < C.length ∧
  (¬ OKh C.length (nxOf C) (hbOf C) → ∀ H', Same H H' → Q .non H') ∧
  (OKh C.length (nxOf C) (hbOf C) → ∀ (d : Addr) (D : List (Nat × Int)) H', Same H H' → H' d = some (.dK (dkv D)) → (D.map (·.1)).Nodup → (∀ a, a ∈ D.map (·.1) ↔ ∃ h, Rch C.length (nxOf C) (hbOf C) a h) → (∀ p ∈ D, p.1 < C.length) → Q (.ref d) H')
theorem ok_reached_heights {f : Addr} {fd : FuncData} (F : Fun K "reached_heights" "reached_heights" s_reached_heights f fd) (T : Txt K mg) (TC : CodTxt K w mg) {f_goals_behind : Addr} {d_goals_behind : FuncData} (c_goals_behind : Cal P w K mg base 1 "goals_behind" ["code", "at"] (spGoals K goalsOf) f_goals_behind d_goals_behind) {f_height_behind : Addr} {d_height_behind : FuncData} (c_height_behind : Cal P w K mg base 1 "height_behind" ["word", "height"] spHb f_height_behind d_height_behind) : FnOk P w K mg base CX0 2 f fd ["code"] (spHeights K) := by
  refine F.ok sc_reached_heights (fun vs H Q E h => ?_) (fun cdv A outer s H vs Q E hr h => ?_)
  · obtain ⟨cd, ends, C, rfl, _⟩ := h
    rfl
  · obtain ⟨cd, ends, C, rfl, hC, vc, hpos, k1, k2⟩ := h
    have hu := hu_of hr
    obtain ⟨t2, m_MOST_HEIGHT⟩ := TC.mMOS
    have h60 := vc.len
    refine ⟨_, (pss_cons (ps_set (i := 1) sc_reached_heights.nd rfl (.inl rfl) (pe_disp (pps_cons pe_int pe_int pps_nil) (by rfl) (by rfl) (fun z => by cases z) (by decide)))
      (pss_cons (ps_set (i := 2) sc_reached_heights.nd rfl (.inl rfl) (pe_lst (pa_cons pe_int pa_nil)))
      (pss_cons (ps_while PassesOwn.never (pt_truth (pv 2) (by intro _; rfl)) (pss_cons (ps_set (i := 3) sc_reached_heights.nd rfl (.inl rfl) (pe_bm0 PySem.F.plainAttrs_list PySem.F.slot_list_pop PySem.F.type_list_pop mt_pop (pv 2)))
      (pss_cons (ps_set (i := 4) sc_reached_heights.nd rfl (.inl rfl) (pe_call c_height_behind.G (hr.mono (by decide)) (by rfl) c_height_behind.m c_height_behind.k c_height_behind.b .nil pass0 (pa_cons (pe_ix ix_tup (pe_ix ix_tup (pv 0) (pv 3) (fun _ _ => rfl)) pe_int (fun _ _ => rfl)) (pa_cons (pe_dget hu (pv 1) (pv 3) (fun _ _ => rfl)) pa_nil))))
      (pss_cons (ps_if (PW.pt (pw_or (pt_cmpR op_lt (pv 4) pe_int (nomark _)) (pw_or1 (pt_cmpR op_gt (pe_dget hu (pv 1) (pv 3) (fun _ _ => rfl)) (pe_glob rfl m_MOST_HEIGHT relI) (nomark _))))) (pss_one (ps_ret pe_non)) pss_nil)
      (pss_one (ps_for PassesOwn.never rfl (pi_list (pe_call c_goals_behind.G (hr.mono (by decide)) (by rfl) c_goals_behind.m c_goals_behind.k c_goals_behind.b .nil pass0 (pa_cons (pv 0) (pa_cons (pv 3) pa_nil)))) (pg_name (i := 5) sc_reached_heights.nd rfl (.inl rfl)) (pss_cons (ps_if (PW.pt (pw_or (pt_cmpR op_eq (pv 5) (pe_callB call_len_seq (by rfl) T.len PySem.boot_len (pa_cons (pv 0) pa_nil)) (nomark _)) (pw_or1 (pt_cmpR op_ne (pe_dget2 (lt_units hr.units) (pv 1) (pv 5) (pv 4) ⟨rfl, rfl, rfl, rfl⟩) (pv 4) (nomark _))))) (pss_one (ps_ret pe_non)) pss_nil)
      (pss_one (ps_if (pt_cmp (pc_dnotin hu (pv 5) (pv 1))) (pss_cons (ps_dput hu (pv 1) (pv 5) (pv 4) rfl)
      (pss_one (ps_expr (pe_bm PySem.F.plainAttrs_list PySem.F.slot_list_append PySem.F.type_list_append mt_append (pv 2) (pa_cons (pv 5) pa_nil))))) pss_nil)))))))))
      (pss_one (ps_ret (pv 1)))))), ?_⟩
    intro hd hhd
    refine ⟨upd_same, [(Sum.inl 0, V.int 0)], rfl, by decide, ?_⟩
    have sd : Same H (upd (upd H hd (.dK [])) hd (.dK (mergeK [] [(Sum.inl 0, V.int 0)]))) := same_off hhd (same_upd hhd)
    have hD0 : (upd (upd H hd (.dK [])) hd (.dK (mergeK [] [(Sum.inl 0, V.int 0)]))) hd = some (.dK (dkv [(0, 0)])) := by
      rw [upd_same]
      rfl
    generalize upd (upd H hd (.dK [])) hd (.dK (mergeK [] [(Sum.inl 0, V.int 0)])) = H1 at sd hD0
    refine ⟨by show 1 ≤ sizeLine; decide, fun wd hwd => ?_⟩
    have hwn : H wd = none := by
      cases z : H wd with
      | none => rfl
      | some o => rw [sd _ _ z] at hwd; cases hwd
    refine ⟨fun m σ H' => ∃ (D : List (Nat × Int)) (W : List Nat) (y3 y4 y5 : Option V), σ = [some (.ref cd), some (.ref hd), some (.ref wd), y3, y4, y5] ∧ Same H H' ∧ H' hd = some (.dK (dkv D)) ∧ H' wd = some (.lst (natsV W)) ∧ HInv C.length (nxOf C) (hbOf C) D W ∧ m + D.length = C.length + W.length,
      ⟨C.length, [(0, 0)], [0], none, none, none, rfl, Same.trans sd (same_upd hwd), (by rw [upd_ne (ne_of_none hD0 hwd)]; exact hD0), upd_same, .start hpos, by simp⟩, ?_⟩
    rintro m σ H' ⟨D, W, y3, y4, y5, rfl, sm, hhd', hwd', I, hm⟩
    refine ⟨_, rfl, !(natsV W).isEmpty, .inl ⟨_, SqL.of hwd', rfl⟩, ?_⟩
    rcases List.eq_nil_or_concat W with rfl | ⟨W0, a, rfl⟩
    · refine iteF ⟨_, rfl, ?_⟩
      exact k2 I.ok hd D H' sm hhd' I.nd I.keys fun p hp => (I.r p hp).2
    rw [List.concat_eq_append] at *
    have enb : (!(natsV (W0 ++ [a])).isEmpty) = true := by
      unfold natsV
      rw [List.map_append]
      cases W0 <;> rfl
    rw [enb]
    refine iteT ⟨_, fun _ _ h => h, ?_⟩
    have el : (natsV (W0 ++ [a])) = natsV W0 ++ [V.int (a : Nat)] := by unfold natsV; rw [List.map_append]; rfl
    rw [el] at hwd'
    refine ⟨_, rfl, .inl ⟨rfl, _, SqL.of hwd'⟩, wd, _, V.int (a : Nat), rfl, rfl, hwd', ?_, ?_⟩
    · rw [List.length_append, List.length_singleton, Nat.add_sub_cancel, List.getElem?_append_right (Nat.le_refl _), Nat.sub_self]
      rfl
    rw [List.dropLast_concat]
    obtain ⟨hh, hmem⟩ := mem_keys (I.ws a (by simp))
    have Mid := I.mid hmem
    have hal : a < C.length := (I.r _ hmem).2
    obtain ⟨ia, eia⟩ : ∃ ia, C[a]? = some ia := ⟨_, List.getElem?_eq_getElem hal⟩
    have hhd1 : (upd H' wd (.lst (natsV W0))) hd = some (.dK (dkv D)) := by
      rw [upd_ne (ne_of hhd' hwd' (by intro z; cases z))]
      exact hhd'
    have sm1 : Same H (upd H' wd (.lst (natsV W0))) := same_off hwn sm
    have hwd1 : (upd H' wd (.lst (natsV W0))) wd = some (.lst (natsV W0)) := upd_same
    generalize upd H' wd (.lst (natsV W0)) = H2 at hhd1 sm1 hwd1
    clear hwd' hhd' sm
    have hC2 := hC.keep sm1
    obtain ⟨us, hcd, hus⟩ := id hC2
    obtain ⟨p, r, hu', hp, hr'⟩ := code_get hus eia
    have hix : atI us ((a : Nat) : Int) = some (.ref p) := atI_nat hu'
    have hget : DGet H2 hd (.int ((a : Nat) : Int)) (some (.int hh)) := by
      have := DGet.k (k := Sum.inl ((a : Nat) : Int)) hhd1
      rw [dkv_some I.nd hmem] at this
      exact this
    refine ⟨_, rfl, _, rfl, cd, _, _, _, rfl, rfl, SqT.of hcd, hix, p, _, _, _, rfl, rfl, SqT.of hp, atI_nat (j := 0) rfl, _, rfl, _, rfl, hd, _, rfl, hget, ia.w, hh, rfl, fun H3 s3 => ?_⟩
    have ehb : hbW ia.w hh = hbOf C a hh := by unfold hbOf; rw [eia]
    rw [ehb]
    have sm3 := Same.trans sm1 s3
    have hhd3 := s3 _ _ hhd1
    have hwd3 := s3 _ _ hwd1
    have hget3 : DGet H3 hd (.int ((a : Nat) : Int)) (some (.int hh)) := by
      have := DGet.k (k := Sum.inl ((a : Nat) : Int)) hhd3
      rw [dkv_some I.nd hmem] at this
      exact this
    refine ⟨_, rfl, _, _, rfl, rfl, _, rfl, ?_⟩
    by_cases c0 : hbOf C a hh < 0
    · rw [decide_eq_true c0]
      exact iteT (iteT (k1 (Mid.bad1 (.inl c0)) H3 sm3))
    rw [decide_eq_false c0]
    refine iteF ⟨_, rfl, _, rfl, hd, _, rfl, hget3, _, _, rfl, rfl, _, rfl, ?_⟩
    by_cases c1 : (40 : Int) < hh
    · rw [decide_eq_true c1]
      exact iteT (k1 (Mid.bad1 (.inr c1)) H3 sm3)
    rw [decide_eq_false c1]
    have h0 : 0 ≤ hbOf C a hh := by omega
    have h1 : hh ≤ 40 := by omega
    refine iteF ?_
    refine ⟨_, rfl, _, rfl, cd, ends, C, a, ia, rfl, hC.keep sm3, vc, eia, fun q H4 s4 nq hq => ?_⟩
    have egs : goalsOf ia a = nxOf C a := by unfold nxOf; rw [eia]
    rw [egs] at hq
    have sm4 := Same.trans sm3 s4
    have hhd4 := s4 _ _ hhd3
    have hwd4 := s4 _ _ hwd3
    have qh : q ≠ hd := (ne_of_none hhd3 nq).symm
    have qw : q ≠ wd := (ne_of_none hwd3 nq).symm
    refine ⟨q, rfl, ⟨_, SqL.of hq⟩, ?_⟩
    rw [List.length_append, List.length_singleton] at hm
    refine for_list (K := K) (a := q) (xs := natsV (nxOf C a)) (fun j σ H5 => ∃ (D : List (Nat × Int)) (W : List Nat) (y5 : Option V), σ = [some (.ref cd), some (.ref hd), some (.ref wd), some (.int (a : Nat)), some (.int (hbOf C a hh)), y5] ∧ Same H H5 ∧ H5 hd = some (.dK (dkv D)) ∧ H5 wd = some (.lst (natsV W)) ∧ H5 q = some (.lst (natsV (nxOf C a))) ∧
      HMid C.length (nxOf C) (hbOf C) a hh ((nxOf C a).take j) D W ∧ m + D.length = C.length + W.length + 1) ⟨D, W0, _, rfl, sm4, hhd4, hwd4, hq, by rw [List.take_zero]; exact Mid, by omega⟩ (fun j σ H5 _ x => ?_) ?_ ?_
    · obtain ⟨_, _, _, _, _, _, _, x, _⟩ := x
      exact SqL.of x
    · rintro j x σ H5 hx ⟨D, W, y5, rfl, sm5, hhd5, hwd5, hq5, M, hm5⟩
      obtain ⟨g, eg, rfl⟩ : ∃ g, (nxOf C a)[j]? = some g ∧ x = V.int (g : Nat) := by
        unfold natsV at hx
        rw [List.getElem?_map] at hx
        cases z : (nxOf C a)[j]? with
        | none => rw [z] at hx; cases hx
        | some g => rw [z] at hx; exact ⟨g, rfl, (Option.some.inj hx).symm⟩
      have hg := List.mem_of_getElem? eg
      have etk : (nxOf C a).take (j + 1) = (nxOf C a).take j ++ [g] := by rw [List.take_add_one, eg]; rfl
      obtain ⟨us5, hcd5, hus5⟩ := hC.keep sm5
      have l5 := hus5.length
      rw [List.length_map] at l5
      refine ⟨_, rfl, _, rfl, cd, _, rfl, .inr (SqT.of hcd5), rfl, _, rfl, ?_⟩
      rw [l5]
      by_cases d0 : g = C.length
      · rw [decide_eq_true (by rw [d0])]
        exact iteT (iteT (k1 (M.bad2 h0 h1 hg (by omega)) H5 sm5))
      rw [decide_eq_false (show ¬ V.int ((g : Nat) : Int) = V.int (C.length : Nat) from fun z => d0 (by injection z with z; omega))]
      have hgl : g < C.length := by
        -- goals of right code lie within, or directly behind the last one
        have okk := vc.ok ia (List.mem_of_getElem? eia)
        have hg' := hg
        unfold nxOf at hg'
        rw [eia] at hg'
        have hg' : g ∈ goalsOf ia a := hg'
        unfold goalsOf at hg'
        by_cases e1 : ia.w = "stop"
        · rw [if_pos e1] at hg'; cases hg'
        rw [if_neg e1] at hg'
        by_cases e2 : ia.w = "jump"
        · rw [if_pos e2] at hg'
          obtain ⟨i, ei, i0, i1⟩ := goal1 okk (.inl e2)
          have : part ia 0 = .n i := by unfold part; rw [ei]; rfl
          rw [this, List.mem_singleton] at hg'
          rw [hg']
          show i.toNat < _
          omega
        rw [if_neg e2] at hg'
        by_cases e3 : ia.w = "wait"
        · rw [if_pos e3] at hg'
          obtain ⟨pe, cs, ec, _, hgs⟩ := goalW okk e3
          have : part ia 1 = .c cs := by unfold part; rw [ec]; rfl
          rw [this] at hg'
          obtain ⟨c, hc, rfl⟩ := List.mem_map.mp hg'
          have := hgs c hc
          omega
        rw [if_neg e3] at hg'
        by_cases e4 : ia.w = "zero"
        · rw [if_pos e4] at hg'
          obtain ⟨i, ei, i0, i1⟩ := goal1 okk (.inr e4)
          have : part ia 0 = .n i := by unfold part; rw [ei]; rfl
          rw [this] at hg'
          rcases List.mem_cons.mp hg' with z | z
          · rw [z]
            show i.toNat < _
            omega
          · have := List.mem_singleton.mp z
            omega
        rw [if_neg e4] at hg'
        by_cases e5 : ia.w = "round"
        · rw [if_pos e5] at hg'
          obtain ⟨pp, i, ei, i0, i1⟩ := goal2 okk e5
          have : part ia 1 = .n i := by unfold part; rw [ei]; rfl
          rw [this] at hg'
          rcases List.mem_cons.mp hg' with z | z
          · rw [z]
            show i.toNat < _
            omega
          · have := List.mem_singleton.mp z
            omega
        rw [if_neg e5] at hg'
        have := List.mem_singleton.mp hg'
        omega
      refine iteF ⟨_, rfl, hd, rfl, .inl ⟨_, Rd.of hhd5⟩, _, rfl, _, rfl, ?_⟩
      have dg := DGet.k (k := Sum.inl ((g : Nat) : Int)) hhd5
      by_cases d1 : g ∈ D.map (·.1)
      · obtain ⟨kk, hkk⟩ := mem_keys d1
        rw [dkv_some M.nd hkk] at dg
        refine ⟨_, dg, _, rfl, rfl, _, rfl, ?_⟩
        show if (!decide (V.int kk = V.int (hbOf C a hh))) = true then _ else _
        by_cases d2 : kk = hbOf C a hh
        · rw [decide_eq_true (by rw [d2])]
          refine iteF ?_
          refine ⟨_, rfl, _, rfl, hd, _, rfl, dg, _, rfl, iteF ?_⟩
          refine ⟨D, W, _, rfl, sm5, hhd5, hwd5, hq5, ?_, hm5⟩
          rw [etk]
          exact M.old hgl (by rw [← d2]; exact hkk)
        · rw [decide_eq_false (show ¬ V.int kk = V.int (hbOf C a hh) from fun z => d2 (by injection z))]
          exact iteT (k1 (M.bad3 h0 h1 hg hkk d2) H5 sm5)
      · rw [dkv_none d1] at dg
        refine ⟨_, dg, _, rfl, rfl, _, rfl, ?_⟩
        show if (!decide (V.int (hbOf C a hh) = V.int (hbOf C a hh))) = true then _ else _
        rw [decide_eq_true rfl]
        refine iteF ?_
        refine ⟨_, rfl, _, rfl, hd, _, rfl, dg, _, rfl, iteT ?_⟩
        have lD := keys_le M.nd fun p hp => (M.r p hp).2
        have M2 := M.new h0 h1 hgl hg d1
        have lD2 := keys_le M2.nd fun p hp => (M2.r p hp).2
        rw [List.length_append, List.length_singleton] at lD2
        refine ⟨_, rfl, _, rfl, _, rfl, hd, _, rfl, DPut.k (k := Sum.inl ((g : Nat) : Int)) hhd5 (by unfold dkv; rw [List.length_map]; exact sz6' (by omega)), ?_⟩
        rw [dkv_put d1]
        have hw1 : (upd H5 hd (.dK (dkv (D ++ [(g, hbOf C a hh)])))) wd = some (.lst (natsV W)) := by
          rw [upd_ne (ne_of hwd5 hhd5 (by intro z; cases z))]
          exact hwd5
        refine ⟨_, rfl, .inl ⟨rfl, _, SqL.of hw1⟩, _, rfl, wd, _, _, rfl, rfl, hw1, ?_, ?_⟩
        · unfold natsV
          rw [List.length_map]
          have : W.length ≤ D.length := by
            have := List.Nodup.length_le_of_subset M.wn (fun x hx => M.ws x hx : W ⊆ D.map (·.1))
            rwa [List.length_map] at this
          exact sz6' (by omega)
        refine ⟨D ++ [(g, hbOf C a hh)], W ++ [g], _, rfl, same_off hwn (same_off hhd sm5), ?_, ?_, ?_, ?_, ?_⟩
        · rw [upd_ne (ne_of upd_same hw1 (by intro z; cases z)), upd_same]
        · rw [upd_same]
          unfold natsV
          rw [List.map_append]
          rfl
        · rw [upd_ne qw, upd_ne qh]
          exact hq5
        · rw [etk]
          exact M2
        · rw [List.length_append, List.length_append, List.length_singleton, List.length_singleton]
          omega
    · rintro σ H5 ⟨D, W, y5, rfl, sm5, hhd5, hwd5, hq5, M, hm5⟩
      have ll : (nxOf C a).take (natsV (nxOf C a)).length = nxOf C a := List.take_of_length_le (by unfold natsV; rw [List.length_map]; exact Nat.le_refl _)
      rw [ll] at M
      have I5 := M.done h0 h1 fun g hg => hg
      have := keys_le I5.nd fun p hp => (I5.r p hp).2
      exact ⟨m - 1, by omega, D, W, _, _, y5, rfl, sm5, hhd5, hwd5, I5, by omega⟩
end
end OS

namespace OS
open PySem PySem.Spec PyProof.Rows L2
/-! ### circles -/
/-- a dict comprehension over a list that stays: its walk -/
theorem dc_lst {K : PySem.W.Frag} {a : Addr} {xs : List V} {g : TG} {tt : TT} {tk tv : TE} {vs : List Nat} {σ : L2.St} {H1 : Hp} {D : Addr} {Qd : Hp → Prop} (Pv : Nat → Hp → Prop) (z0 : Pv 0 (upd H1 D (.dK []))) (stays : ∀ i H, Pv i H → SqL K H a xs)
    (turn : ∀ i x H, xs[i]? = some x → Pv i H → g x (wipe σ vs) H fun s2 H2 => wipe s2 vs = wipe σ vs ∧ tt s2 H2 fun b H3 =>
      if b = true then tk s2 H3 fun y H4 => tv s2 H4 fun z H5 => ∃ kvs k, y = kV k ∧ H5 D = some (.dK kvs) ∧ kvs.length < sizeLine ∧ Pv (i + 1) (upd H5 D (.dK (putK kvs k z))) else Pv (i + 1) H3) (fin : ∀ H, Pv xs.length H → Qd H) :
    ∃ W : Nat → Nat → Hp → Prop, (∃ m, W 0 m (upd H1 D (.dK []))) ∧ ∀ i m H, W i m H →
      ((Itl K a).stop i H ∧ Qd H) ∨ ((Itl K a).go i H ∧ ∃ Nx : Hp → Prop, (∀ H', Nx H' → ∃ m', m' < m ∧ W (i + 1) m' H') ∧ ∀ x H', (Itl K a).yld i H x H' → g x (wipe σ vs) H' fun s2 H2 => wipe s2 vs = wipe σ vs ∧ tt s2 H2 fun b H3 =>
        if b = true then tk s2 H3 fun y H4 => tv s2 H4 fun z H5 => ∃ kvs k, y = kV k ∧ H5 D = some (.dK kvs) ∧ kvs.length < sizeLine ∧ Nx (upd H5 D (.dK (putK kvs k z))) else Nx H3) := by
  have wl : Walk (Itl K a) xs.length (fun H => SqL K H a xs) (YAt xs) := walk_list
  refine ⟨fun i m H => i + m = xs.length ∧ Pv i H, ⟨xs.length, Nat.zero_add _, z0⟩, ?_⟩
  rintro i m H ⟨e, p⟩
  have sq := stays i H p
  by_cases hlt : i < xs.length
  · refine .inr ⟨wl.goes i H hlt sq, Pv (i + 1), fun H' p' => ⟨m - 1, by omega, by omega, p'⟩, fun x H' y => ?_⟩
    obtain ⟨rfl, hx⟩ := wl.yields i H x H' hlt sq y
    exact turn i x _ hx p
  · have e : i = xs.length := by omega
    subst e
    exact .inl ⟨wl.stops H sq, fin H p⟩
def bfD (R : List Nat) (bf : Nat → Int) : List (Nat × Int) := R.map fun g => (g, bf g)
theorem bfD_keys (R : List Nat) (bf : Nat → Int) : (bfD R bf).map (·.1) = R := by
  unfold bfD
  rw [List.map_map]
  exact List.map_id R
theorem bf_get {R : List Nat} {bf : Nat → Int} {y : Nat} (nd : R.Nodup) (hy : y ∈ R) : valV (dkv (bfD R bf)) (Sum.inl (y : Int)) = some (.int (bf y)) :=
  dkv_some (by rw [bfD_keys]; exact nd) (List.mem_map.mpr ⟨y, hy, rfl⟩)
theorem bf_put {R : List Nat} {bf : Nat → Int} {y : Nat} {v : Int} (nd : R.Nodup) (hy : y ∈ R) : putK (dkv (bfD R bf)) (Sum.inl (y : Int)) (.int v) = dkv (bfD R fun g => if g = y then v else bf g) := by
  rw [put_there (bf_get nd hy)]
  unfold dkv bfD
  rw [List.map_map, List.map_map, List.map_map]
  refine List.map_congr_left fun g hg => ?_
  show (if (Sum.inl (g : Int) : Key) = Sum.inl (y : Int) then ((Sum.inl (g : Int) : Key), V.int v) else (Sum.inl (g : Int), V.int (bf g))) = (Sum.inl (g : Int), V.int (if g = y then v else bf g))
  by_cases e : g = y
  · rw [if_pos (by rw [e]), if_pos e]
  · rw [if_neg (fun z => e (by injection z with z; omega)), if_neg e]
section
variable {P : Program} {w : World} {K : PySem.W.Frag} {mg : Str → Option Value} {base : Heap}
def spCirc (K : PySem.W.Frag) : Sp := fun vs H Q _ => ∃ (cd rd : Addr) (ends : List Str) (C : List I24) (R : List Nat), vs = [.ref cd, .ref rd] ∧ CodeAt K H cd C ∧ VC ends C ∧ H rd = some (.lst (natsV R)) ∧ R.Nodup ∧ (∀ a ∈ R, a < C.length) ∧ (∀ a ∈ R, ∀ b ∈ qOf C a, b ∈ R) ∧
  ∀ b : Bool, (b = true ↔ Circ R (qOf C)) → ∀ H', Same H H' → Q (.bl b) H'
theorem natsV_get {l : List Nat} {i : Nat} {x : V} (h : (natsV l)[i]? = some x) : ∃ g, l[i]? = some g ∧ x = V.int (g : Nat) := by
  unfold natsV at h
  rw [List.getElem?_map] at h
  cases z : l[i]? with
  | none => rw [z] at h; cases h
  | some g => rw [z] at h; exact ⟨g, rfl, (Option.some.inj h).symm⟩
theorem natsV_len (l : List Nat) : (natsV l).length = l.length := by unfold natsV; rw [List.length_map]
theorem natsV_snoc (l : List Nat) (g : Nat) : natsV (l ++ [g]) = natsV l ++ [V.int (g : Nat)] := by unfold natsV; rw [List.map_append]; rfl
theorem ok_has_quiet_circle {f : Addr} {fd : FuncData} (F : Fun K "has_quiet_circle" "has_quiet_circle" s_has_quiet_circle f fd) (T : Txt K mg) {f_quiet_goals : Addr} {d_quiet_goals : FuncData} (c_quiet_goals : Cal P w K mg base 2 "quiet_goals" ["code", "at"] (spGoals K quietOf) f_quiet_goals d_quiet_goals) : FnOk P w K mg base CX0 3 f fd ["code", "reached"] (spCirc K) := by
  refine F.ok sc_has_quiet_circle (fun vs H Q E h => ?_) (fun cdv A outer s H vs Q E hr h => ?_)
  · obtain ⟨cd, rd, ends, C, R, rfl, _⟩ := h
    rfl
  · obtain ⟨cd, rd, ends, C, R, rfl, hC, vc, hrd, nd, hlt, hq, k⟩ := h
    have hu := hu_of hr
    have h60 := vc.len
    have lR : R.length ≤ 60 := by
      have := List.Nodup.length_le_of_subset nd (fun x hx => List.mem_range.mpr (hlt x hx) : R ⊆ List.range C.length)
      rw [List.length_range] at this
      omega
    have getA : ∀ a ∈ R, ∃ ia, C[a]? = some ia ∧ quietOf ia a = qOf C a := fun a ha => by
      have e := List.getElem?_eq_getElem (hlt a ha)
      exact ⟨_, e, by unfold qOf; rw [e]⟩
    refine ⟨_, (pss_cons (ps_set (i := 3) sc_has_quiet_circle.nd rfl (.inr rfl) (pe_dc (own := [("at", 2)]) (g := gName 2) (by rfl) sc_has_quiet_circle.nd (pi_list (pv 1)) (blkOk_by (N := ["code", "reached", "at", "before", "goal", "waiting", "many"]) (sc := defScope s_has_quiet_circle) (by decide +kernel)) (fun _ _ _ _ _ => pg_name (i := 2) sc_has_quiet_circle.nd rfl (by first | exact Or.inl rfl | exact Or.inr rfl)) (fun _ _ _ _ _ => pts_nil) (fun _ _ _ _ _ => (pv 2)) (fun _ _ _ _ _ => pe_int)))
      (pss_cons (ps_for PassesOwn.never rfl (pi_list (pv 1)) (pg_name (i := 2) sc_has_quiet_circle.nd rfl (.inl rfl)) (pss_one (ps_for PassesOwn.never rfl (pi_list (pe_call c_quiet_goals.G (hr.mono (by decide)) (by rfl) c_quiet_goals.m c_quiet_goals.k c_quiet_goals.b .nil pass0 (pa_cons (pv 0) (pa_cons (pv 2) pa_nil)))) (pg_name (i := 4) sc_has_quiet_circle.nd rfl (.inl rfl)) (pss_one (ps_daug hu (pv 3) (pv 4) pe_int in_add (fun _ _ _ => rfl))))))
      (pss_cons (ps_setLc (i := 5) (own := [("at", 2)]) (g := gName 2) (by rfl) sc_has_quiet_circle.nd rfl rfl (sw_true rfl rfl rfl (by decide +kernel)) (pi_list (pv 1)) (blkOk_by (N := ["code", "reached", "at", "before", "goal", "waiting", "many"]) (sc := defScope s_has_quiet_circle) (by decide +kernel)) (fun _ _ _ _ _ => pg_name (i := 2) sc_has_quiet_circle.nd rfl (by first | exact Or.inl rfl | exact Or.inr rfl)) (fun _ _ _ _ _ => (pts_one (pt_cmpR op_eq (pe_dget hu (pv 3) (pv 2) (fun _ _ => rfl)) pe_int (nomark _)))) (fun _ _ _ _ _ => (pv 2)))
      (pss_cons (ps_set (i := 6) sc_has_quiet_circle.nd rfl (.inl rfl) pe_int)
      (pss_cons (ps_while PassesOwn.never (pt_truth (pv 5) (by intro _; rfl)) (pss_cons (ps_aug (i := 6) sc_has_quiet_circle.nd rfl (.inl rfl) pe_int ip_add)
      (pss_one (ps_for PassesOwn.never rfl (pi_list (pe_call c_quiet_goals.G (hr.mono (by decide)) (by rfl) c_quiet_goals.m c_quiet_goals.k c_quiet_goals.b .nil pass0 (pa_cons (pv 0) (pa_cons (pe_bm0 PySem.F.plainAttrs_list PySem.F.slot_list_pop PySem.F.type_list_pop mt_pop (pv 5)) pa_nil)))) (pg_name (i := 4) sc_has_quiet_circle.nd rfl (.inl rfl)) (pss_cons (ps_daug hu (pv 3) (pv 4) pe_int in_sub (fun _ _ _ => rfl))
      (pss_one (ps_if (pt_cmpR op_eq (pe_dget hu (pv 3) (pv 4) (fun _ _ => rfl)) pe_int (nomark _)) (pss_one (ps_expr (pe_bm PySem.F.plainAttrs_list PySem.F.slot_list_append PySem.F.type_list_append mt_append (pv 5) (pa_cons (pv 4) pa_nil)))) pss_nil)))))))
      (pss_one (ps_ret (pe_cmpR op_lt (pv 6) (pe_callB call_len_seq (by rfl) T.len PySem.boot_len (pa_cons (pv 1) pa_nil)) (nomark _))))))))), ?_⟩
    refine ⟨_, rfl, rd, rfl, ⟨_, SqL.of hrd⟩, fun bd hbd => ?_⟩
    refine dc_lst (K := K) (a := rd) (xs := natsV R) (fun i H' => H' bd = some (.dK (dkv (bfD (R.take i) fun _ => 0))) ∧ Same H H') ⟨upd_same, same_upd hbd⟩ (fun i H' x => SqL.of (x.2 _ _ hrd)) ?_ ?_
    · rintro i x H' hx ⟨hD, sm⟩
      obtain ⟨g, eg, rfl⟩ := natsV_get hx
      refine ⟨rfl, iteT (B := True) ⟨_, rfl, _, Sum.inl ((g : Nat) : Int), rfl, hD, ?_, ?_, same_off hbd sm⟩⟩
      · unfold dkv bfD
        rw [List.length_map, List.length_map, List.length_take]
        exact sz6' (by omega)
      · have hn : g ∉ (bfD (R.take i) fun _ => 0).map (·.1) := by
          rw [bfD_keys]
          intro hm
          obtain ⟨j, hj⟩ := List.mem_iff_getElem?.mp hm
          have lj := (List.getElem?_eq_some_iff.mp hj).1
          rw [List.length_take] at lj
          rw [List.getElem?_take_of_lt (by omega)] at hj
          have h1 := List.getElem?_eq_some_iff.mp hj
          have h2 := List.getElem?_eq_some_iff.mp eg
          have := (List.getElem_inj (h₀ := h1.1) (h₁ := h2.1) nd).mp (h1.2.trans h2.2.symm)
          omega
        rw [upd_same, show (V.int 0) = V.int (0 : Int) from rfl, dkv_put hn, List.take_add_one, eg]
        unfold bfD
        rw [List.map_append]
        rfl
    rintro H1 ⟨hbd1, sm1⟩
    rw [natsV_len, List.take_length] at hbd1
    -- counting
    refine ⟨_, rfl, rd, rfl, ⟨_, SqL.of (sm1 _ _ hrd)⟩, ?_⟩
    refine for_list (K := K) (a := rd) (xs := natsV R) (fun i σ H' => ∃ (bf : Nat → Int) (y2 y4 : Option V), σ = [some (.ref cd), some (.ref rd), y2, some (.ref bd), y4, none, none] ∧ Same H H' ∧ H' bd = some (.dK (dkv (bfD R bf))) ∧ ∀ g ∈ R, bf g = ((((R.take i).map (qOf C)).flatten).count g : Nat))
      ⟨fun _ => 0, _, _, rfl, sm1, hbd1, fun g _ => by simp⟩ (fun i σ H' _ x => ?_) ?_ ?_
    · obtain ⟨_, _, _, _, x, _⟩ := x
      exact SqL.of (x _ _ hrd)
    · rintro i x σ H' hx ⟨bf, y2, y4, rfl, sm, hbd', hbf⟩
      obtain ⟨a, ea, rfl⟩ := natsV_get hx
      have haR := List.mem_of_getElem? ea
      obtain ⟨ia, eia, eq⟩ := getA a haR
      refine ⟨_, rfl, _, rfl, cd, ends, C, a, ia, rfl, hC.keep sm, vc, eia, fun q H2 s2 nq hq2 => ?_⟩
      rw [eq] at hq2
      refine ⟨q, rfl, ⟨_, SqL.of hq2⟩, ?_⟩
      have qb : q ≠ bd := (ne_of_none hbd' nq).symm
      refine for_list (K := K) (a := q) (xs := natsV (qOf C a)) (fun j σ H3 => ∃ (bf' : Nat → Int) (y4 : Option V), σ = [some (.ref cd), some (.ref rd), some (.int (a : Nat)), some (.ref bd), y4, none, none] ∧ Same H H3 ∧ H3 bd = some (.dK (dkv (bfD R bf'))) ∧ H3 q = some (.lst (natsV (qOf C a))) ∧ ∀ g ∈ R, bf' g = bf g + (((qOf C a).take j).count g : Nat))
        ⟨bf, _, rfl, Same.trans sm s2, s2 _ _ hbd', hq2, fun g _ => by simp⟩ (fun j σ H3 _ x => ?_) ?_ ?_
      · obtain ⟨_, _, _, _, _, x, _⟩ := x
        exact SqL.of x
      · rintro j x σ H3 hx ⟨bf', y4, rfl, sm3, hb3, hq3, hbf'⟩
        obtain ⟨g, eg, rfl⟩ := natsV_get hx
        have hgR := hq a haR g (List.mem_of_getElem? eg)
        have dg := DGet.k (k := Sum.inl ((g : Nat) : Int)) hb3
        rw [bf_get nd hgR] at dg
        refine ⟨_, rfl, _, rfl, bd, _, rfl, dg, _, _, rfl, rfl, _, DPut.k (k := Sum.inl ((g : Nat) : Int)) hb3 (by unfold dkv bfD; rw [List.length_map, List.length_map]; exact sz6' (by omega)), ?_⟩
        rw [bf_put nd hgR]
        refine ⟨_, _, rfl, same_off hbd sm3, upd_same, by rw [upd_ne qb]; exact hq3, fun h hh => ?_⟩
        rw [List.take_add_one, eg, List.count_append]
        show (if h = g then bf' g + 1 else bf' h) = _
        by_cases e : h = g
        · subst e
          rw [if_pos rfl, hbf' h hh]
          have : (some h).toList.count h = 1 := by simp
          rw [this]
          omega
        · rw [if_neg e, hbf' h hh]
          have : (some g).toList.count h = 0 := by
            show [g].count h = 0
            rw [List.count_cons_of_ne (fun z => e z.symm)]
            rfl
          rw [this]
          omega
      · rintro σ H3 ⟨bf', y4, rfl, sm3, hb3, hq3, hbf'⟩
        refine ⟨bf', _, _, rfl, sm3, hb3, fun g hg => ?_⟩
        rw [natsV_len, List.take_length] at hbf'
        rw [hbf' g hg, hbf g hg, List.take_add_one, ea, List.map_append, List.flatten_append, List.count_append]
        simp
    rintro σ H2 ⟨bf, y2, y4, rfl, sm2, hb2, hbf⟩
    rw [natsV_len, List.take_length] at hbf
    have hrd2 := sm2 _ _ hrd
    refine ⟨_, rfl, rd, rfl, ⟨_, SqL.of hrd2⟩, fun wd hwd => ?_⟩
    have hwn : H wd = none := by
      cases z : H wd with
      | none => rfl
      | some o => rw [sm2 _ _ z] at hwd; cases hwd
    refine lc_list (K := K) (a := rd) (xs := natsV R) (fun i H' => H' wd = some (.lst (natsV ((R.take i).filter fun g => decide (bf g = 0)))) ∧ Same H2 H') ⟨upd_same, same_upd hwd⟩ (fun i H' _ x => SqL.of (x.2 _ _ hrd2)) ?_ ?_
    · rintro i x H' hx ⟨hw, sm⟩
      obtain ⟨g, eg, rfl⟩ := natsV_get hx
      have hgR := List.mem_of_getElem? eg
      have dg := DGet.k (k := Sum.inl ((g : Nat) : Int)) (sm _ _ hb2)
      rw [bf_get nd hgR] at dg
      refine ⟨rfl, _, rfl, _, rfl, bd, _, rfl, dg, rfl, _, rfl, ?_⟩
      rw [List.take_add_one, eg, List.filter_append]
      by_cases c : bf g = 0
      · rw [decide_eq_true (by rw [c])]
        refine iteT ⟨_, rfl, _, hw, ?_, ?_, same_off hwd sm⟩
        · rw [natsV_len]
          have := List.length_filter_le (fun g => decide (bf g = 0)) (R.take i)
          rw [List.length_take] at this
          exact sz6' (by omega)
        · rw [upd_same, ← natsV_snoc]
          have : (some g).toList.filter (fun g => decide (bf g = 0)) = [g] := by
            show [g].filter _ = [g]
            rw [List.filter_cons_of_pos (p := fun g => decide (bf g = 0)) (decide_eq_true c)]
            rfl
          rw [this]
      · rw [decide_eq_false (show ¬ V.int (bf g) = V.int 0 from fun z => c (by injection z))]
        refine iteF ⟨?_, sm⟩
        have : (some g).toList.filter (fun g => decide (bf g = 0)) = [] := by
          show [g].filter _ = []
          rw [List.filter_cons_of_neg (by rw [decide_eq_false c]; decide)]
          rfl
        rw [this, List.append_nil]
        exact hw
    rintro H3 ⟨hw3, sm3⟩
    rw [natsV_len, List.take_length] at hw3
    have smA := Same.trans sm2 sm3
    have hb3 := sm3 _ _ hb2
    have I0 : KInv R (qOf C) [] (R.filter fun g => decide (bf g = 0)) bf := KInv.start nd hbf
    refine ⟨fun m σ H' => ∃ (bf : Nat → Int) (Pd W : List Nat) (y2 y4 : Option V), σ = [some (.ref cd), some (.ref rd), y2, some (.ref bd), y4, some (.ref wd), some (.int (Pd.length : Nat))] ∧ Same H H' ∧ H' bd = some (.dK (dkv (bfD R bf))) ∧ H' wd = some (.lst (natsV W)) ∧ KInv R (qOf C) Pd W bf ∧ m + Pd.length = R.length,
      ⟨R.length, bf, [], _, _, _, rfl, smA, hb3, hw3, I0, rfl⟩, ?_⟩
    rintro m σ H' ⟨bf, Pd, W, y2, y4, rfl, sm, hb, hw, I, hm⟩
    refine ⟨_, rfl, !(natsV W).isEmpty, .inl ⟨_, SqL.of hw, rfl⟩, ?_⟩
    rcases List.eq_nil_or_concat W with rfl | ⟨W0, x, rfl⟩
    · refine iteF ⟨_, rfl, _, rfl, rd, _, rfl, .inl (SqL.of (sm _ _ hrd)), _, _, rfl, rfl, ?_⟩
      refine k _ ?_ H' sm
      rw [I.circ nd hq, natsV_len]
      constructor
      · intro z
        have := of_decide_eq_true z
        omega
      · intro z
        exact decide_eq_true (by omega)
    rw [List.concat_eq_append] at *
    have enb : (!(natsV (W0 ++ [x])).isEmpty) = true := by
      rw [natsV_snoc]
      cases natsV W0 <;> rfl
    rw [enb]
    refine iteT ⟨_, fun _ _ h => h, ?_⟩
    have hxR : x ∈ R := I.sub x (by simp)
    obtain ⟨ix, eix, eqx⟩ := getA x hxR
    rw [natsV_snoc] at hw
    have len := I.len
    rw [List.length_append, List.length_singleton] at len
    refine ⟨_, rfl, _, _, rfl, rfl, ?_⟩
    refine ⟨_, rfl, _, rfl, .inl ⟨rfl, _, SqL.of hw⟩, wd, _, V.int (x : Nat), rfl, rfl, hw, ?_, ?_⟩
    · rw [List.length_append, List.length_singleton, Nat.add_sub_cancel, List.getElem?_append_right (Nat.le_refl _), Nat.sub_self]
      rfl
    rw [List.dropLast_concat]
    have hb1 : (upd H' wd (.lst (natsV W0))) bd = some (.dK (dkv (bfD R bf))) := by
      rw [upd_ne (ne_of hb hw (by intro z; cases z))]
      exact hb
    have sm1 : Same H (upd H' wd (.lst (natsV W0))) := same_off hwn sm
    have hw1 : (upd H' wd (.lst (natsV W0))) wd = some (.lst (natsV W0)) := upd_same
    generalize upd H' wd (.lst (natsV W0)) = H4 at hb1 sm1 hw1
    clear hb hw sm
    refine ⟨cd, ends, C, x, ix, rfl, hC.keep sm1, vc, eix, fun q H5 s5 nq hq5 => ?_⟩
    rw [eqx] at hq5
    have qb : q ≠ bd := (ne_of_none hb1 nq).symm
    have qw : q ≠ wd := (ne_of_none hw1 nq).symm
    refine ⟨q, rfl, ⟨_, SqL.of hq5⟩, ?_⟩
    have e1 : ((Pd.length : Nat) : Int) + 1 = (((Pd ++ [x]).length : Nat) : Int) := by
      rw [List.length_append, List.length_singleton]
      rfl
    refine for_list (K := K) (a := q) (xs := natsV (qOf C x)) (fun j σ H6 => ∃ (bf : Nat → Int) (W : List Nat) (y4 : Option V), σ = [some (.ref cd), some (.ref rd), y2, some (.ref bd), y4, some (.ref wd), some (.int (((Pd.length : Nat) : Int) + 1))] ∧ Same H H6 ∧ H6 bd = some (.dK (dkv (bfD R bf))) ∧ H6 wd = some (.lst (natsV W)) ∧ H6 q = some (.lst (natsV (qOf C x))) ∧ KMid R (qOf C) Pd x ((qOf C x).drop j) W bf)
      ⟨bf, W0, _, rfl, Same.trans sm1 s5, s5 _ _ hb1, s5 _ _ hw1, hq5, by rw [List.drop_zero]; exact I.mid nd⟩ (fun j σ H6 _ x => ?_) ?_ ?_
    · obtain ⟨_, _, _, _, _, _, _, x, _⟩ := x
      exact SqL.of x
    · rintro j v σ H6 hx ⟨bf, W, y4, rfl, sm6, hb6, hw6, hq6, M⟩
      obtain ⟨g, eg, rfl⟩ := natsV_get hx
      have hgR := hq x hxR g (List.mem_of_getElem? eg)
      have ed : (qOf C x).drop j = g :: (qOf C x).drop (j + 1) := drop_at eg
      rw [ed] at M
      have dg := DGet.k (k := Sum.inl ((g : Nat) : Int)) hb6
      rw [bf_get nd hgR] at dg
      have lW : W.length ≤ 60 := by
        have := sub_len (P := W) (R := R) (List.nodup_append.mp M.nd).2.1 fun y hy => M.sub y (List.mem_append_right _ hy)
        omega
      refine ⟨_, rfl, _, rfl, bd, _, rfl, dg, _, _, rfl, rfl, _, DPut.k (k := Sum.inl ((g : Nat) : Int)) hb6 (by unfold dkv bfD; rw [List.length_map, List.length_map]; exact sz6' (by omega)), ?_⟩
      rw [bf_put nd hgR]
      have hb7 : (upd H6 bd (.dK (dkv (bfD R fun h => if h = g then bf g - 1 else bf h)))) bd = some (.dK (dkv (bfD R (dec1 bf g)))) := upd_same
      have hw7 : (upd H6 bd (.dK (dkv (bfD R fun h => if h = g then bf g - 1 else bf h)))) wd = some (.lst (natsV W)) := by
        rw [upd_ne (ne_of hw6 hb6 (by intro z; cases z))]
        exact hw6
      have hq7 : (upd H6 bd (.dK (dkv (bfD R fun h => if h = g then bf g - 1 else bf h)))) q = some (.lst (natsV (qOf C x))) := by
        rw [upd_ne qb]
        exact hq6
      have sm7 : Same H (upd H6 bd (.dK (dkv (bfD R fun h => if h = g then bf g - 1 else bf h)))) := same_off hbd sm6
      generalize upd H6 bd (.dK (dkv (bfD R fun h => if h = g then bf g - 1 else bf h))) = H7 at hb7 hw7 hq7 sm7
      have dg7 := DGet.k (k := Sum.inl ((g : Nat) : Int)) hb7
      rw [bf_get nd hgR] at dg7
      have ev : dec1 bf g g = bf g - 1 := by unfold dec1; rw [if_pos rfl]
      rw [ev] at dg7
      refine ⟨_, rfl, _, rfl, bd, _, rfl, dg7, rfl, _, rfl, ?_⟩
      by_cases c : bf g - 1 = 0
      · rw [decide_eq_true (by rw [c])]
        refine iteT ⟨_, rfl, .inl ⟨rfl, _, SqL.of hw7⟩, _, rfl, wd, _, _, rfl, rfl, hw7, by rw [natsV_len]; exact sz6' (by omega), ?_⟩
        refine ⟨_, W ++ [g], _, rfl, same_off hwn sm7, ?_, ?_, ?_, M.take hgR c⟩
        · rw [upd_ne (ne_of hb7 hw7 (by intro z; cases z))]
          exact hb7
        · rw [upd_same, natsV_snoc]
        · rw [upd_ne qw]
          exact hq7
      · rw [decide_eq_false (show ¬ V.int (bf g - 1) = V.int 0 from fun z => c (by injection z))]
        exact iteF ⟨_, W, _, rfl, sm7, hb7, hw7, hq7, M.next hgR c⟩
    · rintro σ H6 ⟨bf, W, y4, rfl, sm6, hb6, hw6, hq6, M⟩
      rw [natsV_len, List.drop_length] at M
      rw [e1]
      exact ⟨m - 1, by omega, bf, Pd ++ [x], W, _, _, rfl, sm6, hb6, hw6, M.done, by rw [List.length_append, List.length_singleton]; omega⟩
end
end OS

namespace OS
open PySem PySem.Spec PyProof.Rows L2
mutual
def Dt.py : Dt → PyData
  | .non => .none
  | .bl b => .bool b
  | .int i => .int i
  | .str x => .str x
  | .tup xs => .tuple (pys xs)
  | .lst xs => .list (pys xs)
def pys : List Dt → List PyData
  | [] => []
  | d :: r => d.py :: pys r
end
mutual
theorem At.dp {K : PySem.W.Frag} {H : Hp} : ∀ {d : Dt} {v : V}, At K H d v → Dp K H v d.py
  | .non, v, h => by unfold At at h; subst h; exact .non
  | .bl b, v, h => by unfold At at h; subst h; exact .bl b
  | .int i, v, h => by unfold At at h; subst h; exact .int i
  | .str x, v, h => by unfold At at h; subst h; exact .str x
  | .tup xs, v, h => by
    unfold At at h
    obtain ⟨p, vs, rfl, hp, hl⟩ := h
    exact .tup (SqT.of hp) (AtL.dp hl)
  | .lst xs, v, h => by
    unfold At at h
    obtain ⟨p, vs, rfl, hp, hl⟩ := h
    exact .lst (SqL.of hp) (AtL.dp hl)
theorem AtL.dp {K : PySem.W.Frag} {H : Hp} : ∀ {ds : List Dt} {vs : List V}, AtL K H ds vs → DpAll K H vs (pys ds)
  | [], vs, h => by unfold AtL at h; subst h; exact .nil
  | d :: ds, vs, h => by
    unfold AtL at h
    obtain ⟨v, r, rfl, hd, hl⟩ := h
    exact .cons (At.dp hd) (AtL.dp hl)
end
/-- a list against the empty one -/
theorem op_eqN {X : Cx} (hu : X.A.units + 64 < cLine) : OpR X (compareOp .Eq) (fun x y H Q => ∃ a b xs ds, x = .ref a ∧ y = .ref b ∧ SqL X.K H a xs ∧ AtL X.K H ds xs ∧ PyData.canLayAll0 (pys ds) = true ∧ SqL X.K H b [] ∧ Q (.bl ds.isEmpty) H) := by
  intro pins s σ H x y v u Q I rx ry h
  obtain ⟨a, b, xs, ds, rfl, rfl, hq, hd, hc, hb, q⟩ := h
  obtain ⟨as, r1⟩ := Dp.reads I (.list (pys ds)) (.ref a) v (.lst hq (AtL.dp hd)) rx
  obtain ⟨bs, r2⟩ := Dp.reads I (.list []) (.ref b) u (.lst hb .nil) ry
  refine SeqAt.compareEq_reads r1 r2 hc rfl ?_ ⟨.bl _, H, I, ?_, q⟩
  · have h2 : min (PyData.list (pys ds)).depth (PyData.list []).depth ≤ (PyData.list []).depth := Nat.min_le_right _ _
    have h3 : (PyData.list []).depth ≤ 64 := by decide
    omega
  · cases ds <;> rfl
theorem lay_int (i : Int) : (Dt.int i).py.canLay0 = true := by simp [Dt.py, PyData.canLay0]
theorem lay_str {x : Str} (h : PyData.strOk x = true) : (Dt.str x).py.canLay0 = true := by simp [Dt.py, PyData.canLay0, h]
theorem lay_tup {xs : List Dt} (h : PyData.canLayAll0 (pys xs) = true) : (Dt.tup xs).py.canLay0 = true := by simp [Dt.py, PyData.canLay0, h]
theorem lay_nil : PyData.canLayAll0 (pys []) = true := by simp [pys, PyData.canLayAll0]
theorem lay_cons {d : Dt} {r : List Dt} (h : d.py.canLay0 = true) (hr : PyData.canLayAll0 (pys r) = true) : PyData.canLayAll0 (pys (d :: r)) = true := by
  rw [pys, PyData.canLayAll0, h, hr]
  rfl

theorem op_neN {X : Cx} (hu : X.A.units + 64 < cLine) : OpR X (compareOp .NotEq) (fun x y H Q => ∃ a b xs ds, x = .ref a ∧ y = .ref b ∧ SqL X.K H a xs ∧ AtL X.K H ds xs ∧ PyData.canLayAll0 (pys ds) = true ∧ SqL X.K H b [] ∧ Q (.bl (!ds.isEmpty)) H) := by
  intro pins s σ H x y v u Q I rx ry h
  obtain ⟨a, b, xs, ds, rfl, rfl, hq, hd, hc, hb, q⟩ := h
  obtain ⟨as, r1⟩ := Dp.reads I (.list (pys ds)) (.ref a) v (.lst hq (AtL.dp hd)) rx
  obtain ⟨bs, r2⟩ := Dp.reads I (.list []) (.ref b) u (.lst hb .nil) ry
  refine SeqAt.compareNe_reads r1 r2 hc rfl ?_ ⟨.bl _, H, I, ?_, q⟩
  · have h2 : min (PyData.list (pys ds)).depth (PyData.list []).depth ≤ (PyData.list []).depth := Nat.min_le_right _ _
    have h3 : (PyData.list []).depth ≤ 64 := by decide
    omega
  · cases ds <;> rfl
theorem op_eqTN {X : Cx} (hu : X.A.units + 64 < cLine) : OpR X (compareOp .Eq) (fun x y H Q => ∃ a b xs ds, x = .ref a ∧ y = .ref b ∧ SqT X.K H a xs ∧ AtL X.K H ds xs ∧ PyData.canLayAll0 (pys ds) = true ∧ SqT X.K H b [] ∧ Q (.bl ds.isEmpty) H) := by
  intro pins s σ H x y v u Q I rx ry h
  obtain ⟨a, b, xs, ds, rfl, rfl, hq, hd, hc, hb, q⟩ := h
  obtain ⟨as, r1⟩ := Dp.reads I (.tuple (pys ds)) (.ref a) v (.tup hq (AtL.dp hd)) rx
  obtain ⟨bs, r2⟩ := Dp.reads I (.tuple []) (.ref b) u (.tup hb .nil) ry
  refine SeqAt.compareEq_reads r1 r2 hc rfl ?_ ⟨.bl _, H, I, ?_, q⟩
  · have h2 : min (PyData.tuple (pys ds)).depth (PyData.tuple []).depth ≤ (PyData.tuple []).depth := Nat.min_le_right _ _
    have h3 : (PyData.tuple []).depth ≤ 64 := by decide
    omega
  · cases ds <;> rfl
theorem lab_ok {l : List Str} (h : l ∈ labs) : ∀ z ∈ l, PyData.strOk z = true := by
  have q : ∀ l ∈ labs, ∀ z ∈ l, PyData.strOk z = true := by decide +kernel
  exact q l h
theorem chs_lay {cs : List (Str × Str × Int)} (h : cs.map (·.1) ∈ labs) (h2 : ∀ c ∈ cs, PyData.strOk c.2.1 = true) : PyData.canLayAll0 (pys (cs.map chI)) = true := by
  have h1 : ∀ c ∈ cs, PyData.strOk c.1 = true := fun c hc => lab_ok h _ (List.mem_map.mpr ⟨c, hc, rfl⟩)
  clear h
  induction cs with
  | nil => exact lay_nil
  | cons c cs ih =>
    rw [List.map_cons]
    exact lay_cons (lay_tup (lay_cons (lay_str (h1 c (List.mem_cons_self ..))) (lay_cons (lay_str (h2 c (List.mem_cons_self ..))) (lay_cons (lay_int _) lay_nil)))) (ih (fun d hd => h2 d (List.mem_cons_of_mem _ hd)) fun d hd => h1 d (List.mem_cons_of_mem _ hd))
theorem wf_lay {a : I24} (h : Wf a) : a.dt.py.canLay0 = true := by
  refine lay_tup (lay_cons (lay_str h.wo) ?_)
  have hc := h.ch
  have hs := h.so
  have q : ∀ ps : List Par, (∀ cs, Par.c cs ∈ ps → cs.map (·.1) ∈ labs ∧ ∀ c ∈ cs, PyData.strOk c.2.1 = true) → (∀ z, Par.s z ∈ ps → PyData.strOk z = true) → PyData.canLayAll0 (pys (ps.map Par.dt)) = true := by
    intro ps
    induction ps with
    | nil => intro _ _; exact lay_nil
    | cons p ps ih =>
      intro h1 h2
      rw [List.map_cons]
      refine lay_cons ?_ (ih (fun cs m => h1 cs (List.mem_cons_of_mem _ m)) fun z m => h2 z (List.mem_cons_of_mem _ m))
      cases p with
      | n i => exact lay_int i
      | s z => exact lay_str (h2 z (List.mem_cons_self ..))
      | c cs =>
        obtain ⟨m1, m2⟩ := h1 cs (List.mem_cons_self ..)
        exact lay_tup (chs_lay m1 m2)
  exact q _ hc hs
theorem code_lay : ∀ {C : List I24}, (∀ a ∈ C, Wf a) → PyData.canLayAll0 (pys (C.map I24.dt)) = true
  | [], _ => lay_nil
  | a :: C, h => by
    rw [List.map_cons]
    exact lay_cons (wf_lay (h a (List.mem_cons_self ..))) (code_lay fun b hb => h b (List.mem_cons_of_mem _ hb))
/-! ### is_sound -/
theorem nodup_nats {ys : List Int} {D : List (Nat × Int)} (hp : ys.Perm (D.map fun p => (p.1 : Int))) (nd : (D.map (·.1)).Nodup) : ∃ R : List Nat, ys.map V.int = natsV R ∧ R.Nodup ∧ ∀ a, a ∈ R ↔ a ∈ D.map (·.1) := by
  refine ⟨ys.map Int.toNat, ?_, ?_, fun a => ?_⟩
  · unfold natsV
    rw [List.map_map]
    refine List.map_congr_left fun y hy => ?_
    obtain ⟨p, _, e⟩ := List.mem_map.mp (hp.mem_iff.mp hy)
    show V.int y = V.int ((y.toNat : Nat) : Int)
    rw [← e]
    rfl
  · have e : ((D.map fun p => (p.1 : Int)).map Int.toNat) = D.map (·.1) := by
      rw [List.map_map]
      exact List.map_congr_left fun p _ => rfl
    have := hp.map Int.toNat
    rw [e] at this
    exact this.nodup_iff.mpr nd
  · have e : ((D.map fun p => (p.1 : Int)).map Int.toNat) = D.map (·.1) := by
      rw [List.map_map]
      exact List.map_congr_left fun p _ => rfl
    have := hp.map Int.toNat
    rw [e] at this
    exact this.mem_iff
section
variable {P : Program} {w : World} {K : PySem.W.Frag} {mg : Str → Option Value} {base : Heap}
def spSound (K : PySem.W.Frag) : Sp := fun vs H Q _ => ∃ (e cd : Addr) (ends : List Str) (C : List I24), vs = [.ref e, .ref cd] ∧ SqT K H e (ends.map V.str) ∧ CodeAt K H cd C ∧ (∀ a ∈ C, Wf a) ∧ C.length ≤ 60 ∧ ∀ b : Bool, (b = true ↔ Sound ends C) → ∀ H', Same H H' → Q (.bl b) H'
theorem ok_is_sound {f : Addr} {fd : FuncData} (F : Fun K "is_sound" "is_sound" s_is_sound f fd) (T : Txt K mg) {f_is_instruction : Addr} {d_is_instruction : FuncData} (c_is_instruction : Cal P w K mg base 5 "is_instruction" ["instruction", "ends", "many"] (spInst K) f_is_instruction d_is_instruction) {f_reached_heights : Addr} {d_reached_heights : FuncData} (c_reached_heights : Cal P w K mg base 2 "reached_heights" ["code"] (spHeights K) f_reached_heights d_reached_heights) {f_has_quiet_circle : Addr} {d_has_quiet_circle : FuncData} (c_has_quiet_circle : Cal P w K mg base 3 "has_quiet_circle" ["code", "reached"] (spCirc K) f_has_quiet_circle d_has_quiet_circle) : FnOk P w K mg base CX0 6 f fd ["ends", "code"] (spSound K) := by
  refine F.ok sc_is_sound (fun vs H Q E h => ?_) (fun cdv A outer s H vs Q E hr h => ?_)
  · obtain ⟨e, cd, ends, C, rfl, _⟩ := h
    rfl
  · obtain ⟨e, cd, ends, C, rfl, he, hC, hwf, h60, k⟩ := h
    obtain ⟨us, hcd, hus⟩ := id hC
    have lu := hus.length
    rw [List.length_map] at lu
    refine ⟨_, (pss_cons (ps_if (PW.pt (pw_or (pt_not (pt_truth (pv 1) (by intro _; rfl))) (pw_or1 (pt_not (pt_val (pe_callB (cr_all (by rfl)) (by rfl) T.all (by decide +kernel) (pa_cons (pe_lc (own := [("instruction", 3)]) (g := gName 3) (by rfl) sc_is_sound.nd (pi_tup (pv 1)) (blkOk_by (N := ["ends", "code", "heights", "instruction"]) (sc := defScope s_is_sound) (by decide +kernel)) (fun _ _ _ _ _ => pg_name (i := 3) sc_is_sound.nd rfl (by first | exact Or.inl rfl | exact Or.inr rfl)) (fun _ _ _ _ _ => pts_nil) (fun _ _ _ _ _ => (pe_call c_is_instruction.G (hr.mono (by decide)) (by rfl) c_is_instruction.m c_is_instruction.k c_is_instruction.b .nil pass0 (pa_cons (pv 3) (pa_cons (pv 0) (pa_cons (pe_callB (show CallR _ (.builtin "len") (fun xs H Q => ∃ p ys, xs = [.ref p] ∧ (SqL K H p ys ∨ SqT K H p ys) ∧ Q (.int ys.length) H) from call_len_seq) (by rfl) T.len PySem.boot_len (pa_cons (pv 1) pa_nil)) pa_nil)))))) pa_nil))))))) (pss_one (ps_ret pe_bl)) pss_nil)
      (pss_cons (ps_set (i := 2) sc_is_sound.nd rfl (.inl rfl) (pe_call c_reached_heights.G (hr.mono (by decide)) (by rfl) c_reached_heights.m c_reached_heights.k c_reached_heights.b .nil pass0 (pa_cons (pv 1) pa_nil)))
      (pss_one (ps_ret (pe_and (pe_cmpR op_notN (pv 2) pe_non (nomark _)) (pe_one (pe_not (pe_call c_has_quiet_circle.G (hr.mono (by decide)) (by rfl) c_has_quiet_circle.m c_has_quiet_circle.k c_has_quiet_circle.b .nil pass0 (pa_cons (pv 1) (pa_cons (pe_callB (call_sortedDI (by rfl)) (by rfl) T.sorted (by decide +kernel) (pa_cons (pv 2) pa_nil)) pa_nil)))))))))), ?_⟩
    refine ⟨_, rfl, !us.isEmpty, .inr (.inl ⟨us, SqT.of hcd, rfl⟩), ?_⟩
    cases C with
    | nil =>
      have : us = [] := List.eq_nil_of_length_eq_zero lu
      subst this
      exact iteT (iteT (k false ⟨fun z => (by cases z), fun z => absurd rfl z.1⟩ H fun _ _ e => e))
    | cons c0 C0 =>
      have hne : (!us.isEmpty) = true := by
        cases us with
        | nil => cases lu
        | cons _ _ => rfl
      rw [hne]
      have hpos : 0 < (c0 :: C0).length := Nat.succ_pos _
      generalize c0 :: C0 = C at *
      refine iteF ⟨_, rfl, cd, rfl, ⟨_, SqT.of hcd⟩, fun D nD => ?_⟩
      refine lc_tup (K := K) (a := cd) (xs := us) (fun i H2 => H2 D = some (.lst (((C.take i).map (okIns ends (C.length : Nat))).map V.bl)) ∧ Same H H2) ⟨upd_same, same_upd nD⟩ (fun i H2 _ x => SqT.of (x.2 _ _ hcd)) ?_ ?_
      · rintro i x H2 hx ⟨hD, s2⟩
        have hi : i < C.length := by
          have := (List.getElem?_eq_some_iff.mp hx).1
          omega
        obtain ⟨v, e1, e2⟩ := hus.get (i := i) (d := (C[i]).dt) (by rw [List.getElem?_map, List.getElem?_eq_getElem hi]; rfl)
        rw [hx] at e1
        cases e1
        refine ⟨rfl, iteT (B := True) ⟨_, rfl, _, rfl, _, rfl, cd, _, rfl, .inr (SqT.of (s2 _ _ hcd)), x, e, ends, _, C[i], rfl, e2.keep s2, Same.tup s2 he, hwf _ (List.getElem_mem hi), fun H3 s3 => ⟨_, s3 _ _ hD, ?_, ?_, same_off nD (Same.trans s2 s3)⟩⟩⟩
        · rw [List.length_map, List.length_map, List.length_take]
          exact sz6' (by omega)
        · rw [upd_same, List.take_add_one, List.getElem?_eq_getElem hi, List.map_append, List.map_append, lu]
          rfl
      rintro H2 ⟨hD, s2⟩
      rw [lu, List.take_length] at hD
      refine ⟨D, _, rfl, SqL.of hD, ?_⟩
      have ea : (C.map (okIns ends (C.length : Nat))).all id = C.all (okIns ends (C.length : Nat)) := by rw [List.all_map]; rfl
      rw [ea]
      cases cg : C.all (okIns ends (C.length : Nat)) with
      | false =>
        refine ⟨_, rfl, iteT (k false ⟨fun z => (by cases z), fun z => ?_⟩ H2 s2)⟩
        have := List.all_eq_true.mpr z.2.1
        rw [cg] at this
        cases this
      | true =>
        have hall := List.all_eq_true.mp cg
        have vc : VC ends C := ⟨hall, hwf, h60⟩
        refine ⟨_, rfl, iteF ?_⟩
        refine ⟨_, rfl, cd, ends, C, rfl, hC.keep s2, vc, hpos, fun hno H3 s3 => ?_, fun hok d DD H3 s3 hd nd hkeys hlt => ?_⟩
        · refine ⟨_, rfl, rfl, _, rfl, ?_⟩
          rw [decide_eq_true (rfl : V.non = V.non)]
          refine iteF (k false ⟨fun z => (by cases z), fun z => absurd z.2.2.1 hno⟩ H3 (Same.trans s2 s3))
        · refine ⟨_, rfl, rfl, _, rfl, ?_⟩
          rw [decide_eq_false (show ¬ V.ref d = V.non from fun z => by cases z)]
          have lD := keys_le nd hlt
          refine iteT ⟨_, rfl, _, rfl, d, _, DD.map (fun p => (p.1 : Int)), rfl, Rd.of hd, ?_, ?_, fun ys p perm _ hp => ?_⟩
          · unfold dkv
            rw [List.map_map, List.map_map]
            rfl
          · rw [List.length_map]
            omega
          obtain ⟨R, eR, ndR, hR⟩ := nodup_nats perm nd
          rw [eR]
          have s4 := Same.trans s2 (Same.trans s3 (same_upd (o := .lst (natsV R)) hp))
          have hmemR : ∀ a, a ∈ R ↔ ∃ h, Rch C.length (nxOf C) (hbOf C) a h := fun a => (hR a).trans (hkeys a)
          refine ⟨cd, p, ends, C, R, rfl, hC.keep s4, vc, upd_same, ndR, fun a ha => ?_, fun a ha b hb => ?_, fun b hb H5 s5 => ?_⟩
          · obtain ⟨h, r⟩ := (hmemR a).mp ha
            exact (hok a h r).1
          · obtain ⟨h, r⟩ := (hmemR a).mp ha
            obtain ⟨o1, o2, o3, _⟩ := hok a h r
            exact (hmemR b).mpr ⟨_, .s r o1 o2 o3 (q_nx vc.form a b hb)⟩
          · refine ⟨b, rfl, ?_⟩
            refine k (!b) ?_ H5 (Same.trans s4 s5)
            have hC0 : C ≠ [] := fun z => by rw [z] at hpos; exact absurd hpos (by decide)
            constructor
            · intro hb'
              refine ⟨hC0, hall, hok, fun ⟨a, ha, p⟩ => ?_⟩
              have : b = true := hb.mpr ⟨a, (hmemR a).mpr ha, p⟩
              rw [this] at hb'
              cases hb'
            · intro sd
              cases b with
              | false => rfl
              | true =>
                obtain ⟨a, ha, p⟩ := hb.mp rfl
                exact absurd ⟨a, (hmemR a).mp ha, p⟩ sd.2.2.2
end
end OS

namespace OS
open PySem PySem.Spec PyProof.Rows L2
def KpT (H H' : Hp) : Prop := ∀ b xs, H b = some (.tup xs) → H' b = some (.tup xs)
theorem KpT.of {H H' : Hp} (s : Same H H') : KpT H H' := fun b xs e => s b _ e
mutual
/-- no list within -/
def tupO : Dt → Bool
  | .tup xs => tupOL xs
  | .lst _ => false
  | _ => true
def tupOL : List Dt → Bool
  | [] => true
  | d :: ds => tupO d && tupOL ds
end
mutual
theorem At.kpT {K : PySem.W.Frag} {H H' : Hp} (s : KpT H H') : ∀ {d : Dt} {v : V}, tupO d = true → At K H d v → At K H' d v
  | .non, v, _, h => by unfold At at h ⊢; exact h
  | .bl b, v, _, h => by unfold At at h ⊢; exact h
  | .int i, v, _, h => by unfold At at h ⊢; exact h
  | .str x, v, _, h => by unfold At at h ⊢; exact h
  | .tup xs, v, o, h => by
    unfold At at h ⊢
    obtain ⟨p, vs, e, hp, hl⟩ := h
    unfold tupO at o
    exact ⟨p, vs, e, s _ _ hp, AtL.kpT s o hl⟩
  | .lst xs, v, o, h => by cases o
theorem AtL.kpT {K : PySem.W.Frag} {H H' : Hp} (s : KpT H H') : ∀ {ds : List Dt} {vs : List V}, tupOL ds = true → AtL K H ds vs → AtL K H' ds vs
  | [], vs, _, h => by unfold AtL at h ⊢; exact h
  | d :: ds, vs, o, h => by
    unfold AtL at h ⊢
    obtain ⟨v, r, e, hd, hl⟩ := h
    unfold tupOL at o
    rw [Bool.and_eq_true] at o
    exact ⟨v, r, e, At.kpT s o.1 hd, AtL.kpT s o.2 hl⟩
end
theorem kpT_lst {H : Hp} {a : Addr} {xs ys : List V} (h : H a = some (.lst xs)) : KpT H (upd H a (.lst ys)) := fun b zs e => by
  rw [upd_ne (ne_of e h (by intro z; cases z))]
  exact e
/-! ### the law's own moves -/
def mvD (m : Nat × Bool) : Dt := .tup [.int (m.1 : Nat), .bl m.2]
def MvAt (K : PySem.W.Frag) (H : Hp) (p : Addr) (l : List (Nat × Bool)) : Prop := ∃ vs, H p = some (.lst vs) ∧ AtL K H (l.map mvD) vs
theorem tupO_mv : ∀ l : List (Nat × Bool), tupOL (l.map mvD) = true
  | [] => by simp [tupOL]
  | m :: l => by
    rw [List.map_cons]
    unfold tupOL
    rw [tupO_mv l]
    simp [mvD, tupO, tupOL]
section
variable {P : Program} {w : World} {K : PySem.W.Frag} {mg : Str → Option Value} {base : Heap}
def spMoves (K : PySem.W.Frag) : Sp := fun vs H Q _ => ∃ (cd : Addr) (ends : List Str) (C : List I24) (i : Nat) (a : I24), vs = [.ref cd, .int (i : Nat)] ∧ CodeAt K H cd C ∧ VC ends C ∧ C[i]? = some a ∧ ∀ (p : Addr) (H' : Hp), Same H H' → H p = none → MvAt K H' p (movesOf a i) → Q (.ref p) H'
theorem mv_new {K : PySem.W.Frag} {H : Hp} {p t : Addr} {g : Nat} {d : Bool} (hp : H t = some (.tup [.int (g : Nat), .bl d])) (nt : H p = none) : MvAt K (upd H p (.lst [.ref t])) p [(g, d)] := by
  refine ⟨_, upd_same, ?_⟩
  simp only [List.map_cons, List.map_nil, mvD, AtL, At]
  exact ⟨_, _, rfl, ⟨t, _, rfl, same_upd nt _ _ hp, _, _, rfl, rfl, _, _, rfl, rfl, rfl⟩, rfl⟩
theorem ok_law_moves {f : Addr} {fd : FuncData} (F : Fun K "_law_moves" "_law_moves" s__law_moves f fd) (T : Txt K mg) : FnOk P w K mg base CX0 1 f fd ["code", "at"] (spMoves K) := by
  refine F.ok sc__law_moves (fun vs H Q E h => ?_) (fun cdv A outer s H vs Q E hr h => ?_)
  · obtain ⟨cd, ends, C, i, a, rfl, _⟩ := h
    rfl
  · obtain ⟨cd, ends, C, i, a, rfl, ⟨us, hcd, hus⟩, vc, ha, k⟩ := h
    obtain ⟨p, r, hu, hp, hr'⟩ := code_get hus ha
    have ok := vc.ok a (List.mem_of_getElem? ha)
    have hix : atI us ((i : Nat) : Int) = some (.ref p) := atI_nat hu
    have free : ∀ {H' : Hp} {q : Addr}, Same H H' → H' q = none → H q = none := fun {H' q} s hq => by
      cases z : H q with
      | none => rfl
      | some o => rw [s _ _ z] at hq; cases hq
    refine ⟨_, (pss_cons (ps_set (i := 2) sc__law_moves.nd rfl (.inl rfl) (pe_ix ix_tup (pv 0) (pv 1) (fun _ _ => rfl)))
      (pss_cons (ps_if (pt_cmpR op_eq (pe_ix ix_tup (pv 2) pe_int (fun _ _ => rfl)) pe_str (nomark _)) (pss_one (ps_ret (pe_lst pa_nil))) pss_nil)
      (pss_cons (ps_if (pt_cmpR op_eq (pe_ix ix_tup (pv 2) pe_int (fun _ _ => rfl)) pe_str (nomark _)) (pss_one (ps_ret (pe_lst (pa_cons (pe_tup (pa_cons (pe_ix ix_tup (pv 2) pe_int (fun _ _ => rfl)) (pa_cons pe_bl pa_nil))) pa_nil)))) pss_nil)
      (pss_cons (ps_if (pt_cmpR op_eq (pe_ix ix_tup (pv 2) pe_int (fun _ _ => rfl)) pe_str (nomark _)) (pss_one (ps_ret (pe_lc (own := [("choice", 4)]) (g := gName 4) (by rfl) sc__law_moves.nd (pi_tup (pe_ix ix_tup (pv 2) pe_int (fun _ _ => rfl))) (blkOk_by (N := ["code", "at", "one", "moves", "choice"]) (sc := defScope s__law_moves) (by decide +kernel)) (fun _ _ _ _ _ => pg_name (i := 4) sc__law_moves.nd rfl (by first | exact Or.inl rfl | exact Or.inr rfl)) (fun _ _ _ _ _ => pts_nil) (fun _ _ _ _ _ => (pe_tup (pa_cons (pe_ix (show IxR _ (rIxT K) from ix_tup) (pv 4) pe_int (fun _ _ => rfl)) (pa_cons pe_bl pa_nil))))))) pss_nil)
      (pss_cons (ps_set (i := 3) sc__law_moves.nd rfl (.inl rfl) (pe_lst (pa_cons (pe_tup (pa_cons (pe_op op_add (pv 1) pe_int) (pa_cons (pe_cmpR op_in_seq (pe_ix ix_tup (pv 2) pe_int (fun _ _ => rfl)) (pe_lst (pa_cons pe_str (pa_cons pe_str (pa_cons pe_str (pa_cons pe_str (pa_cons pe_str (pa_cons pe_str pa_nil))))))) (by rfl)) pa_nil))) pa_nil)))
      (pss_cons (ps_if (pt_cmpR op_eq (pe_ix ix_tup (pv 2) pe_int (fun _ _ => rfl)) pe_str (nomark _)) (pss_one (ps_expr (pe_bm PySem.F.plainAttrs_list PySem.F.slot_list_append PySem.F.type_list_append mt_append (pv 3) (pa_cons (pe_tup (pa_cons (pe_ix ix_tup (pv 2) pe_int (fun _ _ => rfl)) (pa_cons pe_bl pa_nil))) pa_nil)))) pss_nil)
      (pss_cons (ps_if (pt_cmpR op_eq (pe_ix ix_tup (pv 2) pe_int (fun _ _ => rfl)) pe_str (nomark _)) (pss_one (ps_expr (pe_bm PySem.F.plainAttrs_list PySem.F.slot_list_append PySem.F.type_list_append mt_append (pv 3) (pa_cons (pe_tup (pa_cons (pe_ix ix_tup (pv 2) pe_int (fun _ _ => rfl)) (pa_cons pe_bl pa_nil))) pa_nil)))) pss_nil)
      (pss_one (ps_ret (pv 3)))))))))), ?_⟩
    refine ⟨_, rfl, _, rfl, cd, _, _, _, rfl, rfl, SqT.of hcd, hix, ?_⟩
    unfold movesOf at k
    refine ⟨_, rfl, p, _, _, _, rfl, rfl, SqT.of hp, atI_nat (j := 0) rfl, rfl, _, rfl, ?_⟩
    rw [str_eqV]
    by_cases c1 : a.w = "stop"
    · rw [decide_eq_true c1]
      rw [if_pos c1] at k
      refine iteT ⟨Nat.zero_le _, fun q hq => ?_⟩
      exact k q _ (same_upd hq) hq ⟨[], upd_same, by simp [AtL]⟩
    rw [decide_eq_false c1]
    rw [if_neg c1] at k
    refine iteF ⟨_, rfl, p, _, _, _, rfl, rfl, SqT.of hp, atI_nat (j := 0) rfl, rfl, _, rfl, ?_⟩
    rw [str_eqV]
    by_cases c2 : a.w = "jump"
    · rw [decide_eq_true c2]
      rw [if_pos c2] at k
      obtain ⟨g, eg, g0, g1⟩ := goal1 ok (.inl c2)
      rw [eg] at hr'
      simp only [List.map_cons, List.map_nil, Par.dt, At, AtL] at hr'
      obtain ⟨_, _, rfl, rfl, rfl⟩ := hr'
      have hg : ((gN (part a 0) : Nat) : Int) = g := by
        have : part a 0 = .n g := by unfold part; rw [eg]; rfl
        rw [this]
        exact Int.toNat_of_nonneg g0
      refine iteT ⟨_, rfl, p, _, _, _, rfl, rfl, SqT.of hp, atI_nat (j := 1) rfl, by show 2 ≤ sizeLine; decide, fun t ht => ⟨by show 1 ≤ sizeLine; decide, fun q hq => ?_⟩⟩
      have s1 := same_upd (o := .tup [V.int g, V.bl false]) ht
      refine k q _ (Same.trans s1 (same_upd hq)) (free s1 hq) (mv_new ?_ hq)
      rw [upd_same, hg]
    rw [decide_eq_false c2]
    rw [if_neg c2] at k
    refine iteF ⟨_, rfl, p, _, _, _, rfl, rfl, SqT.of hp, atI_nat (j := 0) rfl, rfl, _, rfl, ?_⟩
    rw [str_eqV]
    by_cases c3 : a.w = "wait"
    · rw [decide_eq_true c3]
      rw [if_pos c3] at k
      obtain ⟨pe, cs, ec, hne, hg⟩ := goalW ok c3
      have hp1 : part a 1 = .c cs := by unfold part; rw [ec]; rfl
      rw [hp1] at k
      rw [ec] at hr'
      simp only [List.map_cons, List.map_nil, Par.dt, At, AtL] at hr'
      obtain ⟨v1, _, rfl, _, _, _, rfl, ⟨b, zs, rfl, hb, hzs⟩, rfl⟩ := hr'
      have lz := hzs.length
      rw [List.length_map] at lz
      have l10 := labs_len ((vc.wf a (List.mem_of_getElem? ha)).ch cs (by rw [ec]; simp)).1
      refine iteT ⟨_, rfl, p, _, _, _, rfl, rfl, SqT.of hp, atI_nat (j := 2) rfl, b, rfl, ⟨_, SqT.of hb⟩, fun D nD => ?_⟩
      refine lc_tup (K := K) (a := b) (xs := zs) (fun j H2 => ∃ vs, H2 D = some (.lst vs) ∧ AtL K H2 ((((csOf (.c cs)).map (fun c => (c.2.2.toNat, true))).take j).map mvD) vs ∧ Same H H2) ⟨[], upd_same, by simp [AtL], same_upd nD⟩ (fun j H2 _ q => by obtain ⟨_, _, _, q⟩ := q; exact SqT.of (q _ _ hb)) ?_ ?_
      · rintro j x H2 hx ⟨vs, hD, hA, s2⟩
        have hj : j < cs.length := by
          have := (List.getElem?_eq_some_iff.mp hx).1
          omega
        obtain ⟨v, f1, f2⟩ := hzs.get (i := j) (d := chI cs[j]) (by rw [List.getElem?_map, List.getElem?_eq_getElem hj]; rfl)
        rw [hx] at f1
        cases f1
        simp only [chI, At, AtL] at f2
        obtain ⟨q, qs, rfl, hq, _, _, rfl, rfl, _, _, rfl, rfl, _, _, rfl, rfl, rfl⟩ := f2
        refine ⟨rfl, iteT (B := True) ⟨_, rfl, q, _, _, _, rfl, rfl, SqT.of (s2 _ _ hq), atI_nat (j := 2) rfl, by show 2 ≤ sizeLine; decide, fun t ht => ?_⟩⟩
        have s3 := same_upd (o := .tup [V.int cs[j].2.2, V.bl true]) ht
        have hD3 := s3 _ _ hD
        have kp := kpT_lst (ys := vs ++ [V.ref t]) hD3
        have lv := hA.length
        rw [List.length_map, List.length_take, List.length_map] at lv
        refine ⟨vs, hD3, by rw [lv]; exact sz6' (by omega), vs ++ [V.ref t], upd_same, ?_, same_off nD (Same.trans s2 s3)⟩
        have e : ((csOf (.c cs)).map (fun c => (c.2.2.toNat, true)))[j]? = some (cs[j].2.2.toNat, true) := by
          show (cs.map _)[j]? = _
          rw [List.getElem?_map, List.getElem?_eq_getElem hj]
          rfl
        rw [List.take_add_one, e, List.map_append]
        refine AtL.snoc (d := mvD (cs[j].2.2.toNat, true)) (At.kpT kp (by simp [mvD, tupO, tupOL]) ?_) (AtL.kpT kp (tupO_mv _) (AtL.keep s3 hA))
        simp only [mvD, At, AtL]
        refine ⟨t, _, rfl, upd_same, _, _, rfl, ?_, _, _, rfl, rfl, rfl⟩
        rw [Int.toNat_of_nonneg (hg _ (List.getElem_mem hj)).1]
      · rintro H2 ⟨vs, hD, hA, s2⟩
        have el : ((csOf (.c cs)).map (fun c => (c.2.2.toNat, true))).take zs.length = (csOf (.c cs)).map (fun c => (c.2.2.toNat, true)) := List.take_of_length_le (by rw [List.length_map, lz]; exact Nat.le_refl _)
        rw [el] at hA
        exact k D H2 s2 nD ⟨vs, hD, hA⟩
    rw [decide_eq_false c3]
    rw [if_neg c3] at k
    refine iteF ⟨_, rfl, _, _, rfl, rfl, _, rfl, p, _, _, _, rfl, rfl, SqT.of hp, atI_nat (j := 0) rfl, by show 6 ≤ sizeLine; decide, fun l hl => ?_⟩
    have s1 := same_upd (o := .lst (deedW.map V.str)) hl
    refine ⟨l, deedW.map V.str, rfl, .inl (SqL.of upd_same), rfl, flat_strs _, ?_⟩
    have ed : (if false = true then !inV (V.str a.w) (deedW.map V.str) else inV (V.str a.w) (deedW.map V.str)) = decide (a.w ∈ deedW) := by
      rw [if_neg (by decide)]
      exact inV_str a.w deedW
    rw [ed]
    refine ⟨by show 2 ≤ sizeLine; decide, fun t ht => ⟨by show 1 ≤ sizeLine; decide, fun m hm => ?_⟩⟩
    have s2 := Same.trans s1 (same_upd (o := .tup [V.int ((i : Int) + 1), V.bl (decide (a.w ∈ deedW))]) ht)
    have ht2 : (upd (upd H l (.lst (deedW.map V.str))) t (.tup [V.int ((i : Int) + 1), V.bl (decide (a.w ∈ deedW))])) t = some (.tup [V.int ((i + 1 : Nat) : Int), V.bl (decide (a.w ∈ deedW))]) := upd_same
    have hm : (upd (upd H l (.lst (deedW.map V.str))) t (.tup [V.int ((i : Int) + 1), V.bl (decide (a.w ∈ deedW))])) m = none := hm
    have hmn := free s2 hm
    have mv := mv_new (K := K) ht2 hm
    have s3 := Same.trans s2 (same_upd (o := .lst [V.ref t]) hm)
    obtain ⟨vs, hvs, hA⟩ := mv
    have hvs0 : vs = [V.ref t] := by
      rw [upd_same] at hvs
      cases hvs
      rfl
    have hp3 := s3 _ _ hp
    refine ⟨_, rfl, p, _, _, _, rfl, rfl, SqT.of hp3, atI_nat (j := 0) rfl, rfl, _, rfl, ?_⟩
    rw [str_eqV]
    by_cases c4 : a.w = "zero"
    · have c5 : ¬ a.w = "round" := by rw [c4]; decide +kernel
      rw [decide_eq_true c4]
      rw [if_pos c4, if_neg c5, List.append_nil] at k
      obtain ⟨g, eg, g0, g1⟩ := goal1 ok (.inr c4)
      rw [eg] at hr'
      simp only [List.map_cons, List.map_nil, Par.dt, At, AtL] at hr'
      obtain ⟨_, _, rfl, rfl, rfl⟩ := hr'
      have hg : ((gN (part a 0) : Nat) : Int) = g := by
        have : part a 0 = .n g := by unfold part; rw [eg]; rfl
        rw [this]
        exact Int.toNat_of_nonneg g0
      refine iteT ⟨_, rfl, .inl ⟨rfl, _, SqL.of hvs⟩, _, rfl, p, _, _, _, rfl, rfl, SqT.of hp3, atI_nat (j := 1) rfl, by show 2 ≤ sizeLine; decide, fun t2 ht2' => ?_⟩
      have s4 := same_upd (o := .tup [V.int g, V.bl false]) ht2'
      have hvs4 := s4 _ _ hvs
      have kp := kpT_lst (ys := vs ++ [V.ref t2]) hvs4
      refine ⟨m, _, _, rfl, rfl, hvs4, by rw [hvs0]; show 1 < sizeLine; decide, ?_⟩
      refine ⟨_, rfl, p, _, _, _, rfl, rfl, SqT.of (kp _ _ (s4 _ _ hp3)), atI_nat (j := 0) rfl, rfl, _, rfl, ?_⟩
      rw [str_eqV, decide_eq_false c5]
      refine iteF ⟨_, rfl, ?_⟩
      refine k m _ (same_off hmn (Same.trans s3 s4)) hmn ⟨_, upd_same, ?_⟩
      rw [List.map_append]
      refine AtL.snoc (d := mvD (gN (part a 0), false)) (At.kpT kp (by simp [mvD, tupO, tupOL]) ?_) (AtL.kpT kp (tupO_mv _) (AtL.keep s4 hA))
      simp only [mvD, At, AtL]
      exact ⟨t2, _, rfl, upd_same, _, _, rfl, by rw [hg], _, _, rfl, rfl, rfl⟩
    rw [decide_eq_false c4]
    rw [if_neg c4, List.append_nil] at k
    refine iteF ⟨_, rfl, p, _, _, _, rfl, rfl, SqT.of hp3, atI_nat (j := 0) rfl, rfl, _, rfl, ?_⟩
    rw [str_eqV]
    by_cases c5 : a.w = "round"
    · rw [decide_eq_true c5]
      rw [if_pos c5] at k
      obtain ⟨pp, g, eg, g0, g1⟩ := goal2 ok c5
      rw [eg] at hr'
      simp only [List.map_cons, List.map_nil, Par.dt, At, AtL] at hr'
      obtain ⟨v1, _, rfl, _, _, _, rfl, rfl, rfl⟩ := hr'
      have hg : ((gN (part a 1) : Nat) : Int) = g := by
        have : part a 1 = .n g := by unfold part; rw [eg]; rfl
        rw [this]
        exact Int.toNat_of_nonneg g0
      refine iteT ⟨_, rfl, .inl ⟨rfl, _, SqL.of hvs⟩, _, rfl, p, _, _, _, rfl, rfl, SqT.of hp3, atI_nat (j := 2) rfl, by show 2 ≤ sizeLine; decide, fun t2 ht2' => ?_⟩
      have s4 := same_upd (o := .tup [V.int g, V.bl true]) ht2'
      have hvs4 := s4 _ _ hvs
      have kp := kpT_lst (ys := vs ++ [V.ref t2]) hvs4
      refine ⟨m, _, _, rfl, rfl, hvs4, by rw [hvs0]; show 1 < sizeLine; decide, ?_⟩
      refine ⟨_, rfl, ?_⟩
      refine k m _ (same_off hmn (Same.trans s3 s4)) hmn ⟨_, upd_same, ?_⟩
      rw [List.map_append]
      refine AtL.snoc (d := mvD (gN (part a 1), true)) (At.kpT kp (by simp [mvD, tupO, tupOL]) ?_) (AtL.kpT kp (tupO_mv _) (AtL.keep s4 hA))
      simp only [mvD, At, AtL]
      exact ⟨t2, _, rfl, upd_same, _, _, rfl, by rw [hg], _, _, rfl, rfl, rfl⟩
    · rw [decide_eq_false c5]
      rw [if_neg c5, List.append_nil] at k
      refine iteF ⟨_, rfl, ?_⟩
      exact k m _ s3 hmn ⟨vs, hvs, hA⟩
end
end OS

namespace OS
open PySem PySem.Spec PyProof.Rows L2
/-! ### the law's choices -/
def allL : Nat → List (List Str)
  | 0 => [[]]
  | n + 1 => (allL n).flatMap fun r => [("go" : Str) :: r, ("no" : Str) :: r]
theorem mem_allL : ∀ (ys : List Str), (∀ y ∈ ys, y = "go" ∨ y = "no") → ys ∈ allL ys.length
  | [], _ => by simp [allL]
  | y :: r, h => by
    have ih := mem_allL r fun z hz => h z (List.mem_cons_of_mem _ hz)
    show y :: r ∈ (allL r.length).flatMap fun r => [("go" : Str) :: r, ("no" : Str) :: r]
    refine List.mem_flatMap.mpr ⟨r, ih, ?_⟩
    rcases h y (List.mem_cons_self ..) with e | e <;> rw [e] <;> simp
theorem sorted_labs {l ys : List Str} (hl : l ∈ labs) (p : ys.Perm l) (s : PyProof.Rows.sortedS ys = true) : decide (ys = l) = PyProof.Rows.sortedS l := by
  have hm : ∀ l ∈ labs, ∀ y ∈ l, y = "go" ∨ y = "no" := by decide +kernel
  have hy := mem_allL ys fun y hy => hm l hl y (p.mem_iff.mp hy)
  rw [p.length_eq] at hy
  have q : ∀ l ∈ labs, ∀ ys ∈ allL l.length, PyProof.Rows.sortedS ys = true → ys.count ("go" : Str) = l.count ("go" : Str) → ys.count ("no" : Str) = l.count ("no" : Str) → decide (ys = l) = PyProof.Rows.sortedS l := by decide +kernel
  exact q l hl ys hy s (p.count_eq _) (p.count_eq _)
/-- places of labels that stand ahead already -/
def dupK (l : List Str) (n : Nat) : List Nat := (List.range n).filter fun k => match l[k]? with | some x => decide (x ∈ l.take k) | none => false
theorem asc_labs {l : List Str} (hl : l ∈ labs) : (PyProof.Rows.sortedS l && decide ((dupK l l.length).length = 0)) = ascB l := by
  have q : ∀ l ∈ labs, (PyProof.Rows.sortedS l && decide ((dupK l l.length).length = 0)) = ascB l := by decide +kernel
  exact q l hl
theorem strs_dp {K : PySem.W.Frag} {H : Hp} : ∀ l : List Str, DpAll K H (l.map V.str) (l.map PyData.str)
  | [] => .nil
  | x :: l => .cons (.str x) (strs_dp l)
theorem strs_shaped {l : List Str} (h : ∀ z ∈ l, PyData.strOk z = true) : SeqAt.shaped (.list (l.map PyData.str)) = true := by
  have q : PyData.canLayAll0 (l.map PyData.str) = true ∧ PyData.depthAll (l.map PyData.str) = 0 := by
    induction l with
    | nil => exact ⟨rfl, rfl⟩
    | cons x l ih =>
      obtain ⟨i1, i2⟩ := ih fun z hz => h z (List.mem_cons_of_mem _ hz)
      refine ⟨?_, ?_⟩
      · simp only [List.map_cons, PyData.canLayAll0, PyData.canLay0, h x (List.mem_cons_self ..), i1]
        rfl
      · simp only [List.map_cons, PyData.depthAll, PyData.depth, i2]
        rfl
  unfold SeqAt.shaped
  simp only [PyData.canLay0, PyData.depth, q.1, q.2, Bool.true_and]
  decide
theorem eqv_strs : ∀ a b : List Str, PyData.eqv (.list (a.map PyData.str)) (.list (b.map PyData.str)) = decide (a = b)
  | [], [] => by simp [PyData.eqv, PyData.eqvAll]
  | [], _ :: _ => by simp [PyData.eqv, PyData.eqvAll]
  | _ :: _, [] => by simp [PyData.eqv, PyData.eqvAll]
  | x :: a, y :: b => by
    have ih := eqv_strs a b
    simp only [PyData.eqv] at ih
    simp only [List.map_cons, PyData.eqv, PyData.eqvAll, ih]
    by_cases e : x = y
    · subst e
      simp
    · rw [beq_eq_false_iff_ne.mpr e]
      simp [e]
section
variable {P : Program} {w : World} {K : PySem.W.Frag} {mg : Str → Option Value} {base : Heap}
def spLCh (K : PySem.W.Frag) : Sp := fun vs H Q _ => ∃ (v : V) (b : Int) (p : Par), vs = [v, .int b] ∧ At K H p.dt v ∧ (∀ cs, p = .c cs → cs.map (·.1) ∈ labs ∧ ∀ c ∈ cs, PyData.strOk c.2.1 = true) ∧ ∀ H', Same H H' → Q (.bl (chB p b)) H'
theorem ok_law_choices_ok {f : Addr} {fd : FuncData} (F : Fun K "_law_choices_ok" "_law_choices_ok" s__law_choices_ok f fd) (T : Txt K mg) : FnOk P w K mg base CX0 1 f fd ["part", "size"] (spLCh K) := by
  refine F.ok sc__law_choices_ok (fun vs H Q E h => ?_) (fun cdv A outer s H vs Q E hr h => ?_)
  · obtain ⟨v, b, p, rfl, _⟩ := h
    rfl
  · obtain ⟨v, b, p, rfl, hv, hcs, k⟩ := h
    refine ⟨_, (pss_cons (ps_if (PW.pt (pw_or (pt_not (pt_val (pe_callB call_isi (by rfl) T.isinstance (by decide +kernel) (pa_cons (pv 0) (pa_cons (pe_bltn (v := .ty "tuple") (u := Value.type "tuple") (by rfl) T.tuple (by decide +kernel) rfl) pa_nil))))) (pw_or1 (pt_cmpR (op_eqTN hr.units) (pv 0) (pe_tup pa_nil) (nomark _))))) (pss_one (ps_ret pe_bl)) pss_nil)
      (pss_cons (ps_for PassesOwn.never rfl (pi_tup (pv 0)) (pg_name (i := 2) sc__law_choices_ok.nd rfl (.inl rfl)) (pss_cons (ps_if (PW.pt (pw_or (pt_not (pt_val (pe_callB call_isi (by rfl) T.isinstance (by decide +kernel) (pa_cons (pv 2) (pa_cons (pe_bltn (v := .ty "tuple") (u := Value.type "tuple") (by rfl) T.tuple (by decide +kernel) rfl) pa_nil))))) (pw_or (pt_cmpR op_ne (pe_callB call_len_seq (by rfl) T.len PySem.boot_len (pa_cons (pv 2) pa_nil)) pe_int (nomark _)) (pw_or (pt_not (pt_val (pe_callB call_isi (by rfl) T.isinstance (by decide +kernel) (pa_cons (pe_ix ix_tup (pv 2) pe_int (fun _ _ => rfl)) (pa_cons (pe_bltn (v := .ty "str") (u := Value.type "str") (by rfl) T.str (by decide +kernel) rfl) pa_nil))))) (pw_or1 (pt_not (pt_val (pe_callB call_isi (by rfl) T.isinstance (by decide +kernel) (pa_cons (pe_ix ix_tup (pv 2) pe_int (fun _ _ => rfl)) (pa_cons (pe_bltn (v := .ty "str") (u := Value.type "str") (by rfl) T.str (by decide +kernel) rfl) pa_nil)))))))))) (pss_one (ps_ret pe_bl)) pss_nil)
      (pss_one (ps_if (PW.pt (pw_or (pt_not (pt_val (pe_callB call_isi (by rfl) T.isinstance (by decide +kernel) (pa_cons (pe_ix ix_tup (pv 2) pe_int (fun _ _ => rfl)) (pa_cons (pe_bltn (v := .ty "int") (u := Value.type "int") (by rfl) T.int (by decide +kernel) rfl) pa_nil))))) (pw_or (pt_val (pe_callB call_isi (by rfl) T.isinstance (by decide +kernel) (pa_cons (pe_ix ix_tup (pv 2) pe_int (fun _ _ => rfl)) (pa_cons (pe_bltn (v := .ty "bool") (u := Value.type "bool") (by rfl) T.bool (by decide +kernel) rfl) pa_nil)))) (pw_or1 (pt_not (pt_chain op_le op_lt pe_int (pe_ix ix_tup (pv 2) pe_int (fun _ _ => rfl)) (pv 1))))))) (pss_one (ps_ret pe_bl)) pss_nil))))
      (pss_cons (ps_set (i := 3) sc__law_choices_ok.nd rfl (.inr rfl) (pe_lc (own := [("one", 2)]) (g := gName 2) (by rfl) sc__law_choices_ok.nd (pi_tup (pv 0)) (blkOk_by (N := ["part", "size", "one", "labels", "k"]) (sc := defScope s__law_choices_ok) (by decide +kernel)) (fun _ _ _ _ _ => pg_name (i := 2) sc__law_choices_ok.nd rfl (by first | exact Or.inl rfl | exact Or.inr rfl)) (fun _ _ _ _ _ => pts_nil) (fun _ _ _ _ _ => (pe_ix (show IxR _ (rIxT K) from ix_tup) (pv 2) pe_int (fun _ _ => rfl)))))
      (pss_one (ps_ret (pe_and (pe_cmpR (op_eqD hr.units) (pv 3) (pe_callB cr_sortedS (by rfl) T.sorted (by decide +kernel) (pa_cons (pv 3) pa_nil)) (nomark _)) (pe_one (pe_cmpR op_eq (pe_callB call_len_seq (by rfl) T.len PySem.boot_len (pa_cons (pe_lc (own := [("k", 4)]) (g := gName 4) (by rfl) sc__law_choices_ok.nd (pi_range1 (by rfl) T.range (pa_cons (pe_callB call_len_seq (by rfl) T.len PySem.boot_len (pa_cons (pv 3) pa_nil)) pa_nil)) (blkOk_by (N := ["part", "size", "one", "labels", "k"]) (sc := defScope s__law_choices_ok) (by decide +kernel)) (fun _ _ _ _ _ => pg_name (i := 4) sc__law_choices_ok.nd rfl (by first | exact Or.inl rfl | exact Or.inr rfl)) (fun _ _ _ _ _ => (pts_one (pt_cmpR (show OpR _ (compareOp CmpOp.In) (rIn K false) from op_in_seq) (pe_ix (show IxR _ (rIxL K) from ix_list) (pv 3) (pv 4) (fun _ _ => rfl)) (pe_slice (show SlR _ (rSlL K) from sl_list) (pv 3) po_none (po_some (pv 4))) (by rfl)))) (fun _ _ _ _ _ => (pv 4))) pa_nil)) pe_int (nomark _))))))))), ?_⟩
    cases p with
    | n i =>
      simp only [Par.dt, At] at hv
      subst hv
      exact ⟨_, rfl, _, _, .type "int", .type "tuple", false, rfl, .ty _, .base (.int i), kit_ty (by decide +kernel), false, rfl, iteT (iteT (k _ fun _ _ e => e))⟩
    | s z =>
      simp only [Par.dt, At] at hv
      subst hv
      exact ⟨_, rfl, _, _, .type "str", .type "tuple", false, rfl, .ty _, .base (.str z), kit_ty (by decide +kernel), false, rfl, iteT (iteT (k _ fun _ _ e => e))⟩
    | c cs =>
      simp only [Par.dt, At] at hv
      obtain ⟨q, us, rfl, hq, hus⟩ := hv
      obtain ⟨hlab, hok⟩ := hcs cs rfl
      have l10 := labs_len hlab
      have lu := hus.length
      rw [List.length_map] at lu
      refine ⟨_, rfl, _, _, .type "tuple", .type "tuple", true, rfl, .ty _, .base (.tup hq), kit_ty (by decide +kernel), true, rfl, iteF ?_⟩
      refine ⟨_, rfl, Nat.zero_le _, fun t ht => ?_⟩
      have s1 := same_upd (o := .tup ([] : List V)) ht
      have k : ∀ H', Same H H' → Q (.bl (!cs.isEmpty && cs.all (goalB b) && ascB (cs.map (·.1)))) H' := k
      refine ⟨q, t, us, cs.map chI, rfl, rfl, SqT.of (s1 _ _ hq), AtL.keep s1 hus, chs_lay hlab hok, SqT.of upd_same, _, rfl, ?_⟩
      have hem : (cs.map chI).isEmpty = cs.isEmpty := by cases cs <;> rfl
      rw [hem]
      cases ce : cs.isEmpty with
      | true =>
        rw [ce] at k
        exact iteT (k _ s1)
      | false =>
        rw [ce] at k
        have hq1 := s1 _ _ hq
        have hus1 := AtL.keep s1 hus
        generalize upd H t (.tup ([] : List V)) = H1 at s1 hq1 hus1
        refine iteF ⟨_, rfl, q, rfl, ⟨_, SqT.of hq1⟩, ?_⟩
        refine for_tup (K := K) (a := q) (xs := us) (fun i σ H' => ∃ y2, σ = [some (.ref q), some (.int b), y2, none, none] ∧ H' = H1 ∧ (cs.take i).all (goalB b) = true) ⟨_, rfl, rfl, rfl⟩ (fun i σ H' _ x => by obtain ⟨_, _, rfl, _⟩ := x; exact SqT.of hq1) ?_ ?_
        · rintro i x σ H' hx ⟨y2, rfl, rfl, hal⟩
          have hi : i < cs.length := by
            have := (List.getElem?_eq_some_iff.mp hx).1
            omega
          obtain ⟨v, e1, e2⟩ := hus1.get (i := i) (d := chI cs[i]) (by rw [List.getElem?_map, List.getElem?_eq_getElem hi]; rfl)
          rw [hx] at e1
          cases e1
          simp only [chI, At, AtL] at e2
          obtain ⟨p, zs, rfl, hp, _, _, rfl, rfl, _, _, rfl, rfl, _, _, rfl, rfl, rfl⟩ := e2
          refine ⟨_, rfl, _, _, .type "tuple", .type "tuple", true, rfl, .ty _, .base (.tup hp), kit_ty (by decide +kernel), true, rfl, iteF ?_⟩
          refine ⟨_, rfl, p, _, rfl, .inr (SqT.of hp), rfl, _, rfl, ?_⟩
          rw [decide_eq_true (show V.int (([V.str cs[i].1, V.str cs[i].2.1, V.int cs[i].2.2] : List V).length : Nat) = V.int 3 from rfl)]
          refine iteF ?_
          refine ⟨_, rfl, p, _, _, _, rfl, rfl, SqT.of hp, atI_nat (j := 0) rfl, _, _, .type "str", .type "str", true, rfl, .ty _, .base (.str _), kit_ty (by decide +kernel), true, rfl, iteF ?_⟩
          refine ⟨_, rfl, p, _, _, _, rfl, rfl, SqT.of hp, atI_nat (j := 1) rfl, _, _, .type "str", .type "str", true, rfl, .ty _, .base (.str _), kit_ty (by decide +kernel), true, rfl, iteF ?_⟩
          refine ⟨_, rfl, p, _, _, _, rfl, rfl, SqT.of hp, atI_nat (j := 2) rfl, _, _, .type "int", .type "int", true, rfl, .ty _, .base (.int _), kit_ty (by decide +kernel), true, rfl, iteF ?_⟩
          refine ⟨_, rfl, p, _, _, _, rfl, rfl, SqT.of hp, atI_nat (j := 2) rfl, _, _, .type "int", .type "bool", false, rfl, .ty _, .base (.int _), kit_ty (by decide +kernel), false, rfl, iteF ?_⟩
          refine ⟨_, rfl, p, _, _, _, rfl, rfl, SqT.of hp, atI_nat (j := 2) rfl, _, _, rfl, rfl, _, rfl, ?_⟩
          have nxt : goalB b cs[i] = true → ∃ y, ([some (V.ref q), some (V.int b), y2, none, none].set 2 (some (V.ref p))) = [some (.ref q), some (.int b), y, none, none] ∧ H' = H' ∧ (cs.take (i + 1)).all (goalB b) = true := fun hg => ⟨_, rfl, rfl, by
            rw [List.take_add_one, List.getElem?_eq_getElem hi, List.all_append, hal]
            simp [hg]⟩
          have bad : goalB b cs[i] = false → Q (.bl false) H' := fun hg => by
            have : cs.all (goalB b) = false := by
              rw [List.all_eq_false]
              exact ⟨cs[i], List.getElem_mem hi, by rw [hg]; decide⟩
            rw [this] at k
            exact k _ s1
          by_cases c1 : 0 ≤ cs[i].2.2
          · rw [decide_eq_true c1]
            refine iteT ⟨_, rfl, _, _, rfl, rfl, ?_⟩
            by_cases c2 : cs[i].2.2 < b
            · have hg : goalB b cs[i] = true := by unfold goalB; rw [decide_eq_true c1, decide_eq_true c2]; rfl
              refine ⟨_, rfl, ?_⟩
              rw [decide_eq_true c2]
              exact iteF (nxt hg)
            · have hg : goalB b cs[i] = false := by unfold goalB; rw [decide_eq_true c1, decide_eq_false c2]; rfl
              refine ⟨_, rfl, ?_⟩
              rw [decide_eq_false c2]
              exact iteT (bad hg)
          · have hg : goalB b cs[i] = false := by unfold goalB; rw [decide_eq_false c1]; rfl
            rw [decide_eq_false c1]
            exact iteF ⟨_, rfl, iteT (bad hg)⟩
        rintro σ H' ⟨y2, rfl, rfl, hal⟩
        rw [lu, List.take_length] at hal
        rw [hal] at k
        have k : ∀ H2, Same H H2 → Q (.bl (ascB (cs.map (·.1)))) H2 := k
        refine ⟨_, rfl, q, rfl, ⟨_, SqT.of hq1⟩, fun D nD => ?_⟩
        refine lc_tup (K := K) (a := q) (xs := us) (fun i H2 => H2 D = some (.lst (((cs.map (·.1)).take i).map V.str)) ∧ Same H' H2) ⟨upd_same, same_upd nD⟩ (fun i H2 _ x => SqT.of (x.2 _ _ hq1)) ?_ ?_
        · rintro i x H2 hx ⟨hD, s2⟩
          have hi : i < cs.length := by
            have := (List.getElem?_eq_some_iff.mp hx).1
            omega
          obtain ⟨v, e1, e2⟩ := hus1.get (i := i) (d := chI cs[i]) (by rw [List.getElem?_map, List.getElem?_eq_getElem hi]; rfl)
          rw [hx] at e1
          cases e1
          simp only [chI, At, AtL] at e2
          obtain ⟨p, zs, rfl, hp, _, _, rfl, rfl, _, _, rfl, rfl, _, _, rfl, rfl, rfl⟩ := e2
          refine ⟨rfl, iteT (B := True) ⟨_, rfl, p, _, _, _, rfl, rfl, SqT.of (s2 _ _ hp), atI_nat (j := 0) rfl, _, hD, ?_, ?_, same_off nD s2⟩⟩
          · rw [List.length_map, List.length_take, List.length_map]
            exact sz6' (by omega)
          · rw [upd_same, List.take_add_one, List.getElem?_map, List.getElem?_eq_getElem hi, List.map_append]
            rfl
        rintro H2 ⟨hD, s2⟩
        have el : (cs.map (·.1)).take us.length = cs.map (·.1) := List.take_of_length_le (by rw [List.length_map, lu]; exact Nat.le_refl _)
        rw [el] at hD
        have sA := Same.trans s1 s2
        generalize el2 : cs.map (·.1) = ls at *
        have lls : ls.length ≤ 10 := by rw [← el2, List.length_map]; exact l10
        refine ⟨_, rfl, _, rfl, D, ls, rfl, SqL.of hD, by omega, fun ys p perm srt hp => ?_⟩
        have s3 := same_upd (o := .lst (ys.map V.str)) hp
        have hD3 := s3 _ _ hD
        refine ⟨_, _, .lst (SqL.of hD3) (strs_dp ls), .lst (SqL.of upd_same) (strs_dp ys), strs_shaped (lab_ok hlab), strs_shaped (fun z hz => lab_ok hlab z (perm.mem_iff.mp hz)), _, rfl, ?_⟩
        rw [eqv_strs]
        have esr := sorted_labs hlab perm srt
        have esr2 : decide (ls = ys) = PyProof.Rows.sortedS ls := by rw [← esr]; exact decide_eq_decide.mpr ⟨fun z => z.symm, fun z => z.symm⟩
        rw [esr2]
        have fin := asc_labs hlab
        cases hs : PyProof.Rows.sortedS ls with
        | false =>
          rw [hs, Bool.false_and] at fin
          rw [← fin] at k
          exact iteF (k _ (Same.trans sA s3))
        | true =>
          rw [hs, Bool.true_and] at fin
          refine iteT ⟨_, rfl, D, _, rfl, .inl (SqL.of hD3), _, rfl, by omega, ?_, fun D2 nD2 => ?_⟩
          · rw [List.length_map]; omega
          generalize upd H2 p (.lst (ys.map V.str)) = H4 at s3 hD3 nD2
          rw [List.length_map]
          refine lc_range (n := ls.length) (fun i H5 => H5 D2 = some (.lst ((dupK ls i).map fun n => V.int (n : Nat))) ∧ Same H4 H5) ⟨upd_same, same_upd nD2⟩ ?_ ?_
          · rintro i H5 hi ⟨hD5, s5⟩
            have hx := List.getElem?_eq_getElem hi
            have hat : atI (ls.map V.str) (0 + ((i : Nat) : Int)) = some (V.str ls[i]) := by
              rw [Int.zero_add]
              exact atI_nat (by rw [List.getElem?_map, hx]; rfl)
            have hDD := s5 _ _ hD3
            refine ⟨rfl, _, rfl, _, rfl, D, _, _, _, rfl, rfl, SqL.of hDD, hat, _, rfl, _, rfl, _, rfl, D, _, rfl, SqL.of hDD, fun y hy => ?_⟩
            have ecut : cutV (ls.map V.str) none (some (0 + ((i : Nat) : Int))) = (ls.take i).map V.str := by
              unfold cutV
              rw [Int.zero_add, HT.sIx_nat, HT.sIx_none, List.length_map, Nat.min_eq_left (by omega), List.drop_zero, Nat.sub_zero, List.map_take]
            rw [ecut]
            have s6 := same_upd (o := .lst ((ls.take i).map V.str)) hy
            have hD6 := s6 _ _ hD5
            refine ⟨y, _, rfl, .inl (SqL.of upd_same), rfl, flat_strs _, _, rfl, ?_⟩
            rw [show (if false = true then !inV (V.str ls[i]) ((ls.take i).map V.str) else inV (V.str ls[i]) ((ls.take i).map V.str)) = decide (ls[i] ∈ ls.take i) from inV_str _ _]
            have ed : dupK ls (i + 1) = dupK ls i ++ (if ls[i] ∈ ls.take i then [i] else []) := by
              unfold dupK
              rw [List.range_succ, List.filter_append]
              congr 1
              by_cases c : ls[i] ∈ ls.take i
              · rw [if_pos c, List.filter_cons_of_pos (by rw [hx]; exact decide_eq_true c)]
                rfl
              · rw [if_neg c, List.filter_cons_of_neg (by rw [hx]; intro z; exact c (of_decide_eq_true z))]
                rfl
            have ldup : (dupK ls i).length ≤ i := by
              unfold dupK
              have := List.length_filter_le (fun k => match ls[k]? with | some x => decide (x ∈ ls.take k) | none => false) (List.range i)
              rwa [List.length_range] at this
            by_cases c : ls[i] ∈ ls.take i
            · rw [decide_eq_true c]
              refine iteT ⟨_, rfl, _, hD6, ?_, ?_, same_off nD2 (Same.trans s5 s6)⟩
              · rw [List.length_map]
                exact sz6' (by omega)
              · rw [upd_same, ed, if_pos c, List.map_append, Int.zero_add]
                rfl
            · rw [decide_eq_false c]
              refine iteF ⟨?_, Same.trans s5 s6⟩
              rw [ed, if_neg c, List.append_nil]
              exact hD6
          · rintro H5 ⟨hD5, s5⟩
            refine ⟨D2, _, rfl, .inl (SqL.of hD5), rfl, ?_⟩
            rw [List.length_map]
            have e0 : decide (V.int (((dupK ls ls.length).length : Nat) : Int) = V.int 0) = decide ((dupK ls ls.length).length = 0) := decide_eq_decide.mpr ⟨fun z => by injection z with z; omega, fun z => by rw [z]; rfl⟩
            rw [e0, fin]
            exact k _ (Same.trans sA (Same.trans s3 s5))
end
end OS

namespace OS
open PySem PySem.Spec PyProof.Rows L2
/-! ### the law's shapes -/
def shS : List (Str × Str) := [("push", "n"), ("load", "s"), ("store", "s"), ("add", ""), ("sub", ""), ("mul", ""), ("less", ""), ("same", ""), ("jump", "g")]
def moS : List (Str × Str) := [("zero", "g"), ("emit", "es"), ("wait", "ec"), ("input", "s"), ("round", "ng"), ("yes", "n"), ("no", "n"), ("test", "w"), ("stop", "")]
def tabK (l : List (Str × Str)) : List (Key × V) := l.map fun p => (Sum.inr p.1, V.str p.2)
theorem mg1 : mergeK [] (tabK shS) = tabK shS := by kernel_rfl
theorem mg2 : mergeK [] (tabK moS) = tabK moS := by kernel_rfl
def lk (l : List (Str × Str)) (w : Str) : Option Str := (l.find? fun p => decide (p.1 = w)).map (·.2)
theorem val_tab (w : Str) : ∀ l : List (Str × Str), valV (tabK l) (Sum.inr w : Key) = (lk l w).map V.str
  | [] => rfl
  | p :: l => by
    have ih := val_tab w l
    unfold valV lk tabK at ih ⊢
    rw [List.map_cons, List.find?_cons, List.find?_cons]
    have e : decide ((Sum.inr p.1 : Key) = Sum.inr w) = decide (p.1 = w) := decide_eq_decide.mpr ⟨fun q => by injection q, fun q => by rw [q]⟩
    show Option.map _ (match decide ((Sum.inr p.1 : Key) = Sum.inr w) with | true => some (Sum.inr p.1, V.str p.2) | false => _) = _
    rw [e]
    cases decide (p.1 = w) with
    | true => rfl
    | false => exact ih
def shOf (w : Str) : Option Str := (lk shS w).or (lk moS w)
def optS : Option Str → V | some z => .str z | none => .non
theorem sh_val (w : Str) : ((lk shS w).map V.str).getD (((lk moS w).map V.str).getD .non) = optS (shOf w) := by
  unfold shOf
  cases lk shS w with
  | some z => rfl
  | none => cases lk moS w <;> rfl
def cS (st : Str) : Nat := if st = "number" then 110 else if st = "goal" then 103 else if st = "choices" then 99 else if st = "answer" then 119 else if st = "name" then 115 else 101
def six : List Str := ["number", "goal", "choices", "answer", "name", "end"]
theorem sh_some {w : Str} {ss : List Str} (h : formOf w = some ss) : ∃ sh, shOf w = some sh ∧ sh.cps.toList = ss.map cS ∧ (∀ st ∈ ss, st ∈ six) ∧ ss.length ≤ 2 := by
  have q : ∀ x ∈ forms, (match shOf x.1 with | some sh => decide (sh.cps.toList = x.2.map cS) && x.2.all (fun st => decide (st ∈ six)) && decide (x.2.length ≤ 2) | none => false) = true := by decide +kernel
  have := q _ (form_words h)
  cases e : shOf w with
  | none => rw [e] at this; cases this
  | some sh =>
    rw [e] at this
    simp only [Bool.and_eq_true, decide_eq_true_eq] at this
    exact ⟨sh, rfl, this.1.1, fun st hst => of_decide_eq_true (List.all_eq_true.mp this.1.2 st hst), this.2⟩
theorem sh_none {w : Str} (h : formOf w = none) : shOf w = none := by
  have q : ∀ x ∈ shS ++ moS, ¬ formOf x.1 = none := by decide +kernel
  have r : ∀ l, (∀ x ∈ l, x ∈ shS ++ moS) → lk l w = none := by
    intro l hl
    unfold lk
    cases e : l.find? fun p => decide (p.1 = w) with
    | none => rfl
    | some x =>
      have hm := hl x (List.mem_of_find?_eq_some e)
      have hp := List.find?_some e
      have hp : x.1 = w := of_decide_eq_true hp
      exact absurd (by rw [hp]; exact h) (q x hm)
  unfold shOf
  rw [r shS fun x hx => List.mem_append_left _ hx, r moS fun x hx => List.mem_append_right _ hx]
  rfl
theorem cs_n {st : Str} (h : st ∈ six) : decide (V.str ⟨#[cS st]⟩ = V.str "n") = decide (st = "number") := by
  rw [str_eqV]
  have q : ∀ st ∈ six, decide ((⟨#[cS st]⟩ : Str) = "n") = decide (st = "number") := by decide +kernel
  exact q st h
theorem cs_g {st : Str} (h : st ∈ six) : decide (V.str ⟨#[cS st]⟩ = V.str "g") = decide (st = "goal") := by
  rw [str_eqV]
  have q : ∀ st ∈ six, decide ((⟨#[cS st]⟩ : Str) = "g") = decide (st = "goal") := by decide +kernel
  exact q st h
theorem cs_e {st : Str} (h : st ∈ six) : decide (V.str ⟨#[cS st]⟩ = V.str "e") = decide (st = "end") := by
  rw [str_eqV]
  have q : ∀ st ∈ six, decide ((⟨#[cS st]⟩ : Str) = "e") = decide (st = "end") := by decide +kernel
  exact q st h
theorem cs_w {st : Str} (h : st ∈ six) : decide (V.str ⟨#[cS st]⟩ = V.str "w") = decide (st = "answer") := by
  rw [str_eqV]
  have q : ∀ st ∈ six, decide ((⟨#[cS st]⟩ : Str) = "w") = decide (st = "answer") := by decide +kernel
  exact q st h
theorem cs_c {st : Str} (h : st ∈ six) : decide (V.str ⟨#[cS st]⟩ = V.str "c") = decide (st = "choices") := by
  rw [str_eqV]
  have q : ∀ st ∈ six, decide ((⟨#[cS st]⟩ : Str) = "c") = decide (st = "choices") := by decide +kernel
  exact q st h
theorem cs_sew {st : Str} (h : st ∈ six) : decide (cS st ∈ (Str.ofString "sew").cps.toList) = decide (st = "name" ∨ st = "end" ∨ st = "answer") := by
  have q : ∀ st ∈ six, decide (cS st ∈ (Str.ofString "sew").cps.toList) = decide (st = "name" ∨ st = "end" ∨ st = "answer") := by decide +kernel
  exact q st h
def isNB : Par → Bool | .n _ => true | _ => false
section
variable {P : Program} {w : World} {K : PySem.W.Frag} {mg : Str → Option Value} {base : Heap}
def spShape (K : PySem.W.Frag) : Sp := fun vs H Q _ => ∃ (v : V) (e : Addr) (ends : List Str) (b : Int) (a : I24), vs = [.ref e, v, .int b] ∧ At K H a.dt v ∧ SqT K H e (ends.map V.str) ∧ Wf a ∧ ∀ H', Same H H' → Q (.bl (okIns ends b a)) H'
theorem ok_law_shape_ok {f : Addr} {fd : FuncData} (F : Fun K "_law_shape_ok" "_law_shape_ok" s__law_shape_ok f fd) (T : Txt K mg) {f__law_choices_ok : Addr} {d__law_choices_ok : FuncData} (c__law_choices_ok : Cal P w K mg base 1 "_law_choices_ok" ["part", "size"] (spLCh K) f__law_choices_ok d__law_choices_ok) : FnOk P w K mg base CX0 2 f fd ["ends", "one", "size"] (spShape K) := by
  refine F.ok sc__law_shape_ok (fun vs H Q E h => ?_) (fun cdv A outer s H vs Q E hr h => ?_)
  · obtain ⟨v, e, ends, b, a, rfl, _⟩ := h
    rfl
  · obtain ⟨v, e, ends, b, a, rfl, hv, he, hw, k⟩ := h
    obtain ⟨w0, ps⟩ := a
    have hv0 := hv
    simp only [I24.dt, At, AtL] at hv0
    obtain ⟨p, us, rfl, hp, _, r, rfl, rfl, hr'⟩ := hv0
    have lr := hr'.length
    rw [List.length_map] at lr
    refine ⟨_, (pss_cons (ps_set (i := 3) sc__law_shape_ok.nd rfl (.inl rfl) (pe_disp (pps_cons pe_str pe_str (pps_cons pe_str pe_str (pps_cons pe_str pe_str (pps_cons pe_str pe_str (pps_cons pe_str pe_str (pps_cons pe_str pe_str (pps_cons pe_str pe_str (pps_cons pe_str pe_str (pps_cons pe_str pe_str pps_nil))))))))) (by rfl) (by rfl) (fun z => by cases z) (by decide)))
      (pss_cons (ps_set (i := 4) sc__law_shape_ok.nd rfl (.inl rfl) (pe_disp (pps_cons pe_str pe_str (pps_cons pe_str pe_str (pps_cons pe_str pe_str (pps_cons pe_str pe_str (pps_cons pe_str pe_str (pps_cons pe_str pe_str (pps_cons pe_str pe_str (pps_cons pe_str pe_str (pps_cons pe_str pe_str pps_nil))))))))) (by rfl) (by rfl) (fun z => by cases z) (by decide)))
      (pss_cons (ps_set (i := 5) sc__law_shape_ok.nd rfl (.inl rfl) (pe_dget2 (lt_units hr.units) (pv 3) (pe_ix ix_tup (pv 1) pe_int (fun _ _ => rfl)) (pe_dget1 (lt_units hr.units) (pv 4) (pe_ix ix_tup (pv 1) pe_int (fun _ _ => rfl)) ⟨rfl, rfl, rfl, rfl⟩) ⟨rfl, rfl, rfl, rfl⟩))
      (pss_cons (ps_if (PW.pt (pw_or (pt_cmpR op_isN (pv 5) pe_non (nomark _)) (pw_or1 (pt_cmpR op_ne (pe_callB call_len_seq (by rfl) T.len PySem.boot_len (pa_cons (pv 1) pa_nil)) (pe_op op_add (pe_callB call_len_str (by rfl) T.len PySem.boot_len (pa_cons (pv 5) pa_nil)) pe_int) (nomark _))))) (pss_one (ps_ret pe_bl)) pss_nil)
      (pss_cons (ps_for PassesOwn.never rfl (pi_range1 (by rfl) T.range (pa_cons (pe_callB call_len_str (by rfl) T.len PySem.boot_len (pa_cons (pv 5) pa_nil)) pa_nil)) (pg_name (i := 6) sc__law_shape_ok.nd rfl (.inl rfl)) (pss_cons (ps_set (i := 7) sc__law_shape_ok.nd rfl (.inl rfl) (pe_ix ix_tup (pv 1) (pe_op op_add (pv 6) pe_int) (fun _ _ => rfl)))
      (Evl.pss_cut (ps_set (i := 8) sc__law_shape_ok.nd rfl (.inl rfl) (pe_and (pe_callB call_isi (by rfl) T.isinstance (by decide +kernel) (pa_cons (pv 7) (pa_cons (pe_bltn (v := .ty "int") (u := Value.type "int") (by rfl) T.int (by decide +kernel) rfl) pa_nil))) (pe_one (pe_not (pe_callB call_isi (by rfl) T.isinstance (by decide +kernel) (pa_cons (pv 7) (pa_cons (pe_bltn (v := .ty "bool") (u := Value.type "bool") (by rfl) T.bool (by decide +kernel) rfl) pa_nil)))))))
      (Evl.pss_cut (ps_if (PW.pt (pw_or (PW.pt (pw_and (pt_cmpR op_eq (pe_ix ix_str (pv 5) (pv 6) (fun _ _ => rfl)) pe_str (nomark _)) (pw_and1 (pt_not (PW.pt (pw_and (pt_val (pv 8)) (pw_and1 (pt_chain op_le op_lt pe_int (pv 7) pe_int)))))))) (pw_or1 (PW.pt (pw_and (pt_cmpR op_eq (pe_ix ix_str (pv 5) (pv 6) (fun _ _ => rfl)) pe_str (nomark _)) (pw_and1 (pt_not (PW.pt (pw_and (pt_val (pv 8)) (pw_and1 (pt_chain op_le op_lt pe_int (pv 7) (pv 2)))))))))))) (pss_one (ps_ret pe_bl)) pss_nil)
      (Evl.pss_cut (ps_if (PW.pt (pw_or (PW.pt (pw_and (pt_cmpR op_in_sign (pe_ix ix_str (pv 5) (pv 6) (fun _ _ => rfl)) pe_str (by rfl)) (pw_and1 (pt_not (pt_val (pe_callB call_isi (by rfl) T.isinstance (by decide +kernel) (pa_cons (pv 7) (pa_cons (pe_bltn (v := .ty "str") (u := Value.type "str") (by rfl) T.str (by decide +kernel) rfl) pa_nil)))))))) (pw_or1 (PW.pt (pw_and (pt_cmpR op_eq (pe_ix ix_str (pv 5) (pv 6) (fun _ _ => rfl)) pe_str (nomark _)) (pw_and1 (pt_cmpR op_notIn_seq (pv 7) (pv 0) (by rfl)))))))) (pss_one (ps_ret pe_bl)) pss_nil)
      (pss_one (ps_if (PW.pt (pw_or (PW.pt (pw_and (pt_cmpR op_eq (pe_ix ix_str (pv 5) (pv 6) (fun _ _ => rfl)) pe_str (nomark _)) (pw_and1 (pt_cmpR op_notIn_seq (pv 7) (pe_lst (pa_cons pe_str (pa_cons pe_str pa_nil))) (by rfl))))) (pw_or1 (PW.pt (pw_and (pt_cmpR op_eq (pe_ix ix_str (pv 5) (pv 6) (fun _ _ => rfl)) pe_str (nomark _)) (pw_and1 (pt_not (pt_val (pe_call c__law_choices_ok.G (hr.mono (by decide)) (by rfl) c__law_choices_ok.m c__law_choices_ok.k c__law_choices_ok.b .nil pass0 (pa_cons (pv 7) (pa_cons (pv 2) pa_nil))))))))))) (pss_one (ps_ret pe_bl)) pss_nil)))))))
      (pss_one (ps_ret pe_bl))))))), ?_⟩
    intro d1 n1
    refine ⟨upd_same, tabK shS, rfl, by decide, ?_⟩
    have sm1 : Same H (upd (upd H d1 (.dK [])) d1 (.dK (mergeK [] (tabK shS)))) := same_off n1 (same_upd n1)
    have hd1 : (upd (upd H d1 (.dK [])) d1 (.dK (mergeK [] (tabK shS)))) d1 = some (.dK (tabK shS)) := by
      rw [upd_same, mg1]
    intro d2 n2
    refine ⟨upd_same, tabK moS, rfl, by decide, ?_⟩
    have sm2 := same_off (o := .dK (mergeK [] (tabK moS))) n2 (same_upd (o := .dK []) n2)
    have hd1' := sm2 _ _ hd1
    have hd2 : (upd (upd (upd (upd H d1 (.dK [])) d1 (.dK (mergeK [] (tabK shS)))) d2 (.dK [])) d2 (.dK (mergeK [] (tabK moS)))) d2 = some (.dK (tabK moS)) := by
      rw [upd_same, mg2]
    generalize upd (upd (upd (upd H d1 (.dK [])) d1 (.dK (mergeK [] (tabK shS)))) d2 (.dK [])) d2 (.dK (mergeK [] (tabK moS))) = H2 at sm2 hd1' hd2
    have sm := Same.trans sm1 sm2
    clear sm1 hd1 sm2
    have hp2 := sm _ _ hp
    have hr2 := AtL.keep sm hr'
    have he2 := Same.tup sm he
    refine ⟨_, rfl, d1, rfl, .inl ⟨_, .inl hd1'⟩, _, rfl, p, _, _, _, rfl, rfl, SqT.of hp2, atI_nat (j := 0) rfl, _, rfl, d2, rfl, .inl ⟨_, .inl hd2⟩, _, rfl, p, _, _, _, rfl, rfl, SqT.of hp2, atI_nat (j := 0) rfl, _, .k (k := Sum.inr w0) hd2, _, .k (k := Sum.inr w0) hd1', ?_⟩
    rw [val_tab, val_tab, sh_val]
    have k : ∀ H', Same H H' → Q (.bl (okIns ends b ⟨w0, ps⟩)) H' := k
    unfold okIns at k
    cases ef : formOf w0 with
    | none =>
      rw [sh_none ef, show optS none = V.non from rfl]
      rw [show formOf (I24.mk w0 ps).w = none from ef] at k
      refine ⟨_, rfl, rfl, _, rfl, ?_⟩
      rw [decide_eq_true (rfl : V.non = V.non)]
      exact iteT (iteT (k _ sm))
    | some ss =>
      obtain ⟨sh, e1, e2, e3, e4⟩ := sh_some ef
      rw [e1, show optS (some sh) = V.str sh from rfl]
      rw [show formOf (I24.mk w0 ps).w = some ss from ef] at k
      have k : ∀ H', Same H H' → Q (.bl (decide (ps.length = ss.length) && (List.zipWith (okPart ends b) ss ps).all id)) H' := k
      have hsz : sh.length = ss.length := by
        have := congrArg List.length e2
        rw [List.length_map, Array.length_toList] at this
        exact this
      have hlz : sh.length ≤ sizeLine := by
        have : (2 : Nat) ≤ sizeLine := by decide
        omega
      refine ⟨_, rfl, rfl, _, rfl, ?_⟩
      rw [decide_eq_false (show ¬ V.str sh = V.non from fun z => by cases z)]
      refine iteF ⟨_, rfl, p, _, rfl, .inr (SqT.of hp2), _, rfl, sh, rfl, hlz, _, _, rfl, rfl, rfl, _, rfl, ?_⟩
      rw [List.length_cons, lr, hsz]
      by_cases c1 : ps.length = ss.length
      · rw [decide_eq_true (show V.int ((ps.length + 1 : Nat) : Int) = V.int ((ss.length : Nat) + 1) by rw [c1]; rfl)]
        rw [decide_eq_true c1] at k
        refine iteF ⟨_, rfl, sh, rfl, hlz, _, rfl, by omega, by omega, ?_⟩
        refine for_range (fun i σ H' => ∃ y6 y7 y8, σ = [some (.ref e), some (.ref p), some (.int b), some (.ref d1), some (.ref d2), some (.str sh), y6, y7, y8] ∧ Same H H' ∧ ((List.zipWith (okPart ends b) ss ps).take i).all id = true) ⟨_, _, _, rfl, sm, rfl⟩ ?_ ?_
        · rintro i σ H' hi ⟨y6, y7, y8, rfl, s3, hall⟩
          have hiS : i < ss.length := by omega
          have hiP : i < ps.length := by omega
          obtain ⟨x, f1, f2⟩ := hr'.get (i := i) (d := (ps[i]).dt) (by rw [List.getElem?_map, List.getElem?_eq_getElem hiP]; rfl)
          have hx : At K H' (ps[i]).dt x := f2.keep s3
          have hst : ss[i] ∈ six := e3 _ (List.getElem_mem hiS)
          have hat : atI (V.str w0 :: r) (0 + ((i : Nat) : Int) + 1) = some x := by
            rw [show 0 + ((i : Nat) : Int) + 1 = ((i + 1 : Nat) : Int) by omega]
            exact atI_nat f1
          have hc : atI sh.cps.toList (0 + ((i : Nat) : Int)) = some (cS ss[i]) := by
            rw [e2, Int.zero_add]
            exact atI_nat (by rw [List.getElem?_map, List.getElem?_eq_getElem hiS]; rfl)
          have hch : ∀ cs, ps[i] = .c cs → cs.map (·.1) ∈ labs ∧ ∀ c ∈ cs, PyData.strOk c.2.1 = true := fun cs e => hw.ch cs (e ▸ List.getElem_mem hiP)
          have hzi : (List.zipWith (okPart ends b) ss ps)[i]? = some (okPart ends b ss[i] ps[i]) := by
            rw [List.getElem?_zipWith, List.getElem?_eq_getElem hiS, List.getElem?_eq_getElem hiP]
          have hnx : okPart ends b ss[i] ps[i] = true → ((List.zipWith (okPart ends b) ss ps).take (i + 1)).all id = true := fun ho => by
            rw [List.take_add_one, hzi, List.all_append, hall, ho]
            rfl
          have bad : okPart ends b ss[i] ps[i] = false → ∀ H2, Same H H2 → Q (.bl false) H2 := fun ho H2 s2 => by
            have : (List.zipWith (okPart ends b) ss ps).all id = false := by
              rw [List.all_eq_false]
              exact ⟨okPart ends b ss[i] ps[i], List.mem_of_getElem? hzi, by rw [ho]; decide⟩
            rw [this] at k
            exact k _ s2
          have hp3 := s3 _ _ hp
          have he3 := Same.tup s3 he
          generalize ss[i] = st at hst hc hnx bad
          generalize ps[i] = pt at hx hch hnx bad
          refine ⟨_, rfl, _, rfl, _, _, rfl, rfl, p, _, _, _, rfl, rfl, SqT.of hp3, hat, ?_⟩
          refine ⟨fun σ2 H2 => σ2 = [some (.ref e), some (.ref p), some (.int b), some (.ref d1), some (.ref d2), some (.str sh), some (.int (0 + (i : Nat))), some x, some (.bl (isNB pt))] ∧ H2 = H', ?_, ?_⟩
          · cases pt with
            | n z =>
              simp only [Par.dt, At] at hx
              subst hx
              exact ⟨_, rfl, _, _, .type "int", .type "int", true, rfl, .ty _, .base (.int z), kit_ty (by decide +kernel), true, rfl, iteT ⟨_, rfl, _, _, .type "int", .type "bool", false, rfl, .ty _, .base (.int z), kit_ty (by decide +kernel), false, rfl, rfl, rfl⟩⟩
            | s z =>
              simp only [Par.dt, At] at hx
              subst hx
              exact ⟨_, rfl, _, _, .type "str", .type "int", false, rfl, .ty _, .base (.str z), kit_ty (by decide +kernel), false, rfl, iteF ⟨rfl, rfl⟩⟩
            | c cs =>
              simp only [Par.dt, At] at hx
              obtain ⟨q, us, rfl, hq, _⟩ := hx
              exact ⟨_, rfl, _, _, .type "tuple", .type "int", false, rfl, .ty _, .base (.tup hq), kit_ty (by decide +kernel), false, rfl, iteF ⟨rfl, rfl⟩⟩
          rintro σ2 H2 ⟨rfl, rfl⟩
          refine ⟨fun σ3 H3 => σ3 = [some (.ref e), some (.ref p), some (.int b), some (.ref d1), some (.ref d2), some (.str sh), some (.int (0 + (i : Nat))), some x, some (.bl (isNB pt))] ∧ H3 = H2 ∧ (st = "number" → numB pt 4294967296 = true) ∧ (st = "goal" → numB pt b = true), ?_, ?_⟩
          · refine ⟨_, rfl, _, rfl, sh, _, _, rfl, rfl, hlz, hc, rfl, _, rfl, ?_⟩
            rw [cs_n hst]
            by_cases a1 : st = "number"
            · rw [decide_eq_true a1]
              have hok : okPart ends b st pt = numB pt 4294967296 := by unfold okPart; rw [if_pos a1]
              refine iteT ?_
              cases pt with
              | n z =>
                simp only [Par.dt, At] at hx
                subst hx
                have hnb : numB (.n z) 4294967296 = (decide (0 ≤ z) && decide (z < 4294967296)) := rfl
                refine ⟨_, rfl, _, rfl, iteT ⟨_, rfl, _, _, rfl, rfl, _, rfl, ?_⟩⟩
                by_cases z1 : 0 ≤ z
                · rw [decide_eq_true z1]
                  refine iteT ⟨_, _, rfl, rfl, _, rfl, ?_⟩
                  by_cases z2 : z < 4294967296
                  · rw [decide_eq_true z2]
                    rw [decide_eq_true z1, decide_eq_true z2] at hnb
                    refine iteF ⟨_, rfl, _, rfl, sh, _, _, rfl, rfl, hlz, hc, rfl, _, rfl, ?_⟩
                    rw [cs_g hst, decide_eq_false (show ¬ st = "goal" from fun z => by rw [a1] at z; revert z; decide +kernel)]
                    exact iteF (iteF ⟨rfl, rfl, fun _ => hnb, fun z => absurd (a1.symm.trans z) (by decide +kernel)⟩)
                  · rw [decide_eq_false z2]
                    rw [decide_eq_false z2, Bool.and_false] at hnb
                    exact iteT (iteT (bad (hok.trans hnb) _ s3))
                · rw [decide_eq_false z1]
                  rw [decide_eq_false z1, Bool.false_and] at hnb
                  exact iteF ⟨_, rfl, iteT (iteT (bad (hok.trans hnb) _ s3))⟩
              | s z => exact ⟨_, rfl, _, rfl, iteF (iteT (iteT (bad (hok.trans rfl) _ s3)))⟩
              | c cs => exact ⟨_, rfl, _, rfl, iteF (iteT (iteT (bad (hok.trans rfl) _ s3)))⟩
            rw [decide_eq_false a1]
            refine iteF (iteF ⟨_, rfl, _, rfl, sh, _, _, rfl, rfl, hlz, hc, rfl, _, rfl, ?_⟩)
            rw [cs_g hst]
            by_cases a2 : st = "goal"
            · rw [decide_eq_true a2]
              have hok : okPart ends b st pt = numB pt b := by unfold okPart; rw [if_neg a1, if_pos a2]
              refine iteT ?_
              cases pt with
              | n z =>
                simp only [Par.dt, At] at hx
                subst hx
                have hnb : numB (.n z) b = (decide (0 ≤ z) && decide (z < b)) := rfl
                refine ⟨_, rfl, _, rfl, iteT ⟨_, rfl, _, _, rfl, rfl, _, rfl, ?_⟩⟩
                by_cases z1 : 0 ≤ z
                · rw [decide_eq_true z1]
                  refine iteT ⟨_, rfl, _, _, rfl, rfl, _, rfl, ?_⟩
                  by_cases z2 : z < b
                  · rw [decide_eq_true z2]
                    rw [decide_eq_true z1, decide_eq_true z2] at hnb
                    exact iteF ⟨rfl, rfl, fun z => absurd z a1, fun _ => hnb⟩
                  · rw [decide_eq_false z2]
                    rw [decide_eq_false z2, Bool.and_false] at hnb
                    exact iteT (id (bad (hok.trans hnb) _ s3))
                · rw [decide_eq_false z1]
                  rw [decide_eq_false z1, Bool.false_and] at hnb
                  exact iteF ⟨_, rfl, iteT (id (bad (hok.trans hnb) _ s3))⟩
              | s z => exact ⟨_, rfl, _, rfl, iteF (iteT (id (bad (hok.trans rfl) _ s3)))⟩
              | c cs => exact ⟨_, rfl, _, rfl, iteF (iteT (id (bad (hok.trans rfl) _ s3)))⟩
            rw [decide_eq_false a2]
            exact iteF (iteF ⟨rfl, rfl, fun z => absurd z a1, fun z => absurd z a2⟩)
          rintro σ3 H3 ⟨rfl, rfl, o1, o2⟩
          refine ⟨fun σ4 H4 => σ4 = [some (.ref e), some (.ref p), some (.int b), some (.ref d1), some (.ref d2), some (.str sh), some (.int (0 + (i : Nat))), some x, some (.bl (isNB pt))] ∧ H4 = H3 ∧ (st = "name" ∨ st = "end" ∨ st = "answer" → ∃ z, pt = .s z) ∧ (st = "end" → ∃ z, pt = .s z ∧ z ∈ ends), ?_, ?_⟩
          · refine ⟨_, rfl, _, rfl, sh, _, _, rfl, rfl, hlz, hc, cS st, _, rfl, rfl, _, rfl, ?_⟩
            rw [cs_sew hst]
            by_cases a1 : st = "name" ∨ st = "end" ∨ st = "answer"
            · rw [decide_eq_true a1]
              refine iteT ?_
              have hbx : (∀ z, pt ≠ .s z) → okPart ends b st pt = false := fun hn => by
                unfold okPart
                have q : ∀ st : Str, (st = "name" ∨ st = "end" ∨ st = "answer") → ¬ st = "number" ∧ ¬ st = "goal" ∧ ¬ st = "choices" := by
                  rintro st (h | h | h) <;> rw [h] <;> decide +kernel
                obtain ⟨q1, q2, q3⟩ := q st a1
                rw [if_neg q1, if_neg q2, if_neg q3]
                cases pt with
                | s z => exact absurd rfl (hn z)
                | n z => split <;> rfl
                | c cs => split <;> rfl
              cases pt with
              | n z =>
                simp only [Par.dt, At] at hx
                subst hx
                exact ⟨_, rfl, _, _, .type "int", .type "str", false, rfl, .ty _, .base (.int z), kit_ty (by decide +kernel), false, rfl, iteT (iteT (bad (hbx fun z q => by cases q) _ s3))⟩
              | c cs =>
                simp only [Par.dt, At] at hx
                obtain ⟨q, us, rfl, hq, _⟩ := hx
                exact ⟨_, rfl, _, _, .type "tuple", .type "str", false, rfl, .ty _, .base (.tup hq), kit_ty (by decide +kernel), false, rfl, iteT (iteT (bad (hbx fun z q => by cases q) _ s3))⟩
              | s z =>
                simp only [Par.dt, At] at hx
                subst hx
                refine ⟨_, rfl, _, _, .type "str", .type "str", true, rfl, .ty _, .base (.str z), kit_ty (by decide +kernel), true, rfl, iteF ⟨_, rfl, _, rfl, sh, _, _, rfl, rfl, hlz, hc, rfl, _, rfl, ?_⟩⟩
                rw [cs_e hst]
                by_cases a2 : st = "end"
                · rw [decide_eq_true a2]
                  refine iteT ⟨_, rfl, _, rfl, e, _, rfl, .inr he3, rfl, flat_strs _, _, rfl, ?_⟩
                  rw [show (if true = true then !inV (V.str z) (ends.map V.str) else inV (V.str z) (ends.map V.str)) = !decide (z ∈ ends) by rw [if_pos rfl, inV_str]]
                  by_cases a3 : z ∈ ends
                  · rw [decide_eq_true a3]
                    exact iteF ⟨rfl, rfl, fun _ => ⟨z, rfl⟩, fun _ => ⟨z, rfl, a3⟩⟩
                  · rw [decide_eq_false a3]
                    refine iteT (bad ?_ _ s3)
                    rw [a2]
                    show decide ((("end" : Str) = "name") ∨ z ∈ ends) = false
                    refine decide_eq_false fun q => q.elim (by decide +kernel) a3
                · rw [decide_eq_false a2]
                  exact iteF (iteF ⟨rfl, rfl, fun _ => ⟨z, rfl⟩, fun q => absurd q a2⟩)
            · rw [decide_eq_false a1]
              refine iteF (iteF ⟨_, rfl, _, rfl, sh, _, _, rfl, rfl, hlz, hc, rfl, _, rfl, ?_⟩)
              have a2 : ¬ st = "end" := fun q => a1 (.inr (.inl q))
              rw [cs_e hst, decide_eq_false a2]
              exact iteF (iteF ⟨rfl, rfl, fun q => absurd q a1, fun q => absurd q a2⟩)
          rintro σ4 H4 ⟨rfl, rfl, o3, o4⟩
          refine ⟨_, rfl, _, rfl, sh, _, _, rfl, rfl, hlz, hc, rfl, _, rfl, ?_⟩
          rw [cs_w hst]
          by_cases a1 : st = "answer"
          · rw [decide_eq_true a1]
            obtain ⟨z, rfl⟩ := o3 (.inr (.inr a1))
            simp only [Par.dt, At] at hx
            subst hx
            refine iteT ⟨_, rfl, by show 2 ≤ sizeLine; decide, fun q hq => ?_⟩
            have s5 := same_upd (o := .lst (ansL.map V.str)) hq
            refine ⟨q, ansL.map V.str, rfl, .inl (SqL.of upd_same), rfl, rfl, _, rfl, ?_⟩
            rw [show (if true = true then !inV (V.str z) (ansL.map V.str) else inV (V.str z) (ansL.map V.str)) = !decide (z = "yes" ∨ z = "no") by
              rw [if_pos rfl, inV_str]
              unfold ansL
              simp]
            have hok : okPart ends b st (.s z) = decide (z = "yes" ∨ z = "no") := by
              rw [a1]
              rfl
            by_cases a3 : z = "yes" ∨ z = "no"
            · rw [decide_eq_true a3]
              refine iteF ⟨_, rfl, _, rfl, sh, _, _, rfl, rfl, hlz, (by first | exact hc | assumption), rfl, _, rfl, ?_⟩
              rw [cs_c hst, decide_eq_false (show ¬ st = "choices" from fun z => by rw [a1] at z; revert z; decide +kernel)]
              exact iteF (iteF ⟨_, _, _, rfl, Same.trans s3 s5, hnx (hok.trans (decide_eq_true a3))⟩)
            · rw [decide_eq_false a3]
              exact iteT (iteT (bad (hok.trans (decide_eq_false a3)) _ (Same.trans s3 s5)))
          rw [decide_eq_false a1]
          refine iteF (iteF ⟨_, rfl, _, rfl, sh, _, _, rfl, rfl, hlz, hc, rfl, _, rfl, ?_⟩)
          rw [cs_c hst]
          by_cases a2 : st = "choices"
          · rw [decide_eq_true a2]
            refine iteT ⟨_, rfl, _, rfl, x, b, pt, rfl, hx, hch, fun H5 s5 => ⟨_, rfl, ?_⟩⟩
            have hok : okPart ends b st pt = chB pt b := by rw [a2]; rfl
            cases hcb : chB pt b with
            | true => exact iteF ⟨_, _, _, rfl, Same.trans s3 s5, hnx (hok.trans hcb)⟩
            | false => exact iteT (bad (hok.trans hcb) _ (Same.trans s3 s5))
          · rw [decide_eq_false a2]
            refine iteF (iteF ⟨_, _, _, rfl, s3, hnx ?_⟩)
            unfold okPart
            by_cases b1 : st = "number"
            · rw [if_pos b1]; exact o1 b1
            rw [if_neg b1]
            by_cases b2 : st = "goal"
            · rw [if_pos b2]; exact o2 b2
            rw [if_neg b2, if_neg a2, if_neg a1]
            by_cases b3 : st = "end"
            · obtain ⟨z, rfl, hz⟩ := o4 b3
              exact decide_eq_true (.inr hz)
            · have b4 : st = "name" := by
                unfold six at hst
                simp only [List.mem_cons, List.not_mem_nil, or_false] at hst
                rcases hst with h | h | h | h | h | h
                · exact absurd h b1
                · exact absurd h b2
                · exact absurd h a2
                · exact absurd h a1
                · exact h
                · exact absurd h b3
              obtain ⟨z, rfl⟩ := o3 (.inl b4)
              exact decide_eq_true (.inl b4)
        · rintro σ H' ⟨y6, y7, y8, rfl, s3, hall⟩
          rw [show (((sh.length : Nat) : Int).toNat) = sh.length from rfl, hsz, List.take_of_length_le (by rw [List.length_zipWith]; omega)] at hall
          rw [hall] at k
          exact k _ s3
      · rw [decide_eq_false (show ¬ V.int ((ps.length + 1 : Nat) : Int) = V.int ((ss.length : Nat) + 1) from fun q => c1 (by injection q with q; omega))]
        rw [decide_eq_false c1] at k
        exact iteT (k _ sm)
end
end OS

namespace OS
open PySem PySem.Spec PyProof.Rows L2
/-! ### the law's soundness -/
def tabI (l : List (Str × Int)) : List (Key × V) := l.map fun p => (Sum.inr p.1, V.int p.2)
theorem mi1 : mergeK [] (tabI tkL) = tabI tkL := by kernel_rfl
theorem mi2 : mergeK [] (tabI ptL) = tabI ptL := by kernel_rfl
theorem val_tabI (w : Str) : ∀ l : List (Str × Int), (valV (tabI l) (Sum.inr w : Key)).getD (.int 0) = .int (lkI l w)
  | [] => rfl
  | p :: l => by
    have ih := val_tabI w l
    unfold valV lkI tabI at ih ⊢
    rw [List.map_cons, List.find?_cons, List.find?_cons]
    have e : decide ((Sum.inr p.1 : Key) = Sum.inr w) = decide (p.1 = w) := decide_eq_decide.mpr ⟨fun q => by injection q, fun q => by rw [q]⟩
    show (Option.map _ (match decide ((Sum.inr p.1 : Key) = Sum.inr w) with | true => some (Sum.inr p.1, V.int p.2) | false => _)).getD _ = _
    rw [e]
    cases decide (p.1 = w) with
    | true => rfl
    | false => exact ih
theorem nats_at {K : PySem.W.Frag} {H : Hp} : ∀ l : List Nat, AtL K H (l.map fun x => Dt.int (x : Nat)) (natsV l)
  | [] => by
    unfold natsV
    simp only [List.map_nil, AtL]
  | x :: l => by
    have ih := nats_at (K := K) (H := H) l
    unfold natsV at ih ⊢
    simp only [List.map_cons, AtL, At]
    exact ⟨_, _, rfl, rfl, ih⟩
theorem nats_lay : ∀ l : List Nat, PyData.canLayAll0 (pys (l.map fun x => Dt.int (x : Nat))) = true
  | [] => lay_nil
  | x :: l => by
    rw [List.map_cons]
    exact lay_cons (lay_int _) (nats_lay l)
theorem nats_em (l : List Nat) : (l.map fun x => Dt.int (x : Nat)).isEmpty = l.isEmpty := by cases l <;> rfl
theorem inV_nat (k : Nat) : ∀ l : List Nat, inV (.int (k : Nat)) (natsV l) = decide (k ∈ l)
  | [] => by simp [inV, natsV]
  | c :: cs => by
    have ih := inV_nat k cs
    unfold inV natsV at ih ⊢
    rw [List.map_cons, List.any_cons, ih]
    have e : eqV (.int (c : Nat)) (.int (k : Nat)) = decide (c = k) := by
      show (((c : Nat) : Int) == ((k : Nat) : Int)) = _
      by_cases h : c = k
      · rw [decide_eq_true h]; exact beq_iff_eq.mpr (by rw [h])
      · rw [decide_eq_false h]; exact beq_eq_false_iff_ne.mpr (by omega)
    rw [e]
    by_cases h : c = k
    · subst h; simp
    · rw [decide_eq_false h, Bool.false_or]
      refine decide_eq_decide.mpr ⟨fun q => List.mem_cons_of_mem _ q, fun q => ?_⟩
      rcases List.mem_cons.mp q with q | q
      · exact absurd q.symm h
      · exact q
theorem kpT_dk {H : Hp} {a : Addr} {xs : List (Key × V)} {o : HO} (h : H a = some (.dK xs)) : KpT H (upd H a o) := fun b zs e => by
  rw [upd_ne (ne_of e h (by intro z; cases z))]
  exact e
/-- the objects of the search -/
structure Hs (H H' : Hp) (d1 d2 hd wd : Addr) (D : List (Nat × Int)) (W : List Nat) : Prop where
  s : Same H H'
  t : H' d1 = some (.dK (tabI tkL))
  p : H' d2 = some (.dK (tabI ptL))
  h : H' hd = some (.dK (dkv D))
  w : H' wd = some (.lst (natsV W))
  n1 : d1 ≠ hd
  n2 : d2 ≠ hd
  o1 : H hd = none
  o2 : H wd = none
theorem none_of {H H' : Hp} (s : Same H H') {a : Addr} (h : H' a = none) : H a = none := by
  cases z : H a with
  | none => rfl
  | some o => rw [s _ _ z] at h; cases h
section
variable {H H' H2 : Hp} {d1 d2 hd wd : Addr} {D D2 : List (Nat × Int)} {W W2 : List Nat}
theorem Hs.keep (x : Hs H H' d1 d2 hd wd D W) (s : Same H' H2) : Hs H H2 d1 d2 hd wd D W :=
  ⟨Same.trans x.s s, s _ _ x.t, s _ _ x.p, s _ _ x.h, s _ _ x.w, x.n1, x.n2, x.o1, x.o2⟩
theorem Hs.setW (x : Hs H H' d1 d2 hd wd D W) : Hs H (upd H' wd (.lst (natsV W2))) d1 d2 hd wd D W2 :=
  ⟨same_off x.o2 x.s, by rw [upd_ne (ne_of x.t x.w (by intro z; cases z))]; exact x.t, by rw [upd_ne (ne_of x.p x.w (by intro z; cases z))]; exact x.p, by rw [upd_ne (ne_of x.h x.w (by intro z; cases z))]; exact x.h, upd_same, x.n1, x.n2, x.o1, x.o2⟩
theorem Hs.setD (x : Hs H H' d1 d2 hd wd D W) : Hs H (upd H' hd (.dK (dkv D2))) d1 d2 hd wd D2 W :=
  ⟨same_off x.o1 x.s, by rw [upd_ne x.n1]; exact x.t, by rw [upd_ne x.n2]; exact x.p, upd_same, by rw [upd_ne (ne_of x.w x.h (by intro z; cases z))]; exact x.w, x.n1, x.n2, x.o1, x.o2⟩
end
section
variable {P : Program} {w : World} {K : PySem.W.Frag} {mg : Str → Option Value} {base : Heap}
theorem ok_law_sound {f : Addr} {fd : FuncData} (F : Fun K "_law_sound" "_law_sound" s__law_sound f fd) (T : Txt K mg) {f__law_shape_ok : Addr} {d__law_shape_ok : FuncData} (c__law_shape_ok : Cal P w K mg base 2 "_law_shape_ok" ["ends", "one", "size"] (spShape K) f__law_shape_ok d__law_shape_ok) {f__law_moves : Addr} {d__law_moves : FuncData} (c__law_moves : Cal P w K mg base 1 "_law_moves" ["code", "at"] (spMoves K) f__law_moves d__law_moves) : FnOk P w K mg base CX0 3 f fd ["ends", "code"] (spSound K) := by
  refine F.ok sc__law_sound (fun vs H Q E h => ?_) (fun cdv A outer s H vs Q E hr h => ?_)
  · obtain ⟨e, cd, ends, C, rfl, _⟩ := h
    rfl
  · obtain ⟨e, cd, ends, C, rfl, he, hC, hwf, h60, k⟩ := h
    obtain ⟨us, hcd, hus⟩ := id hC
    have lu := hus.length
    rw [List.length_map] at lu
    have hu := hu_of hr
    refine ⟨_, (pss_cons (ps_if (PW.pt (pw_or (pt_cmpR (op_eqTN hr.units) (pv 1) (pe_tup pa_nil) (nomark _)) (pw_or1 (pt_cmpR (op_neN hr.units) (pe_lc (own := [("one", 14)]) (g := gName 14) (by rfl) sc__law_sound.nd (pi_tup (pv 1)) (blkOk_by (N := ["ends", "code", "takes", "puts", "height", "waiting", "at", "word", "now", "goal", "deed", "start", "reached", "k", "one"]) (sc := defScope s__law_sound) (by decide +kernel)) (fun _ _ _ _ _ => pg_name (i := 14) sc__law_sound.nd rfl (by first | exact Or.inl rfl | exact Or.inr rfl)) (fun _ _ _ _ _ => (pts_one (pt_not (pt_val (pe_call c__law_shape_ok.G (hr.mono (by decide)) (by rfl) c__law_shape_ok.m c__law_shape_ok.k c__law_shape_ok.b .nil pass0 (pa_cons (pv 0) (pa_cons (pv 14) (pa_cons (pe_callB (show CallR _ (.builtin "len") (fun xs H Q => ∃ p ys, xs = [.ref p] ∧ (SqL K H p ys ∨ SqT K H p ys) ∧ Q (.int ys.length) H) from call_len_seq) (by rfl) T.len PySem.boot_len (pa_cons (pv 1) pa_nil)) pa_nil)))))))) (fun _ _ _ _ _ => (pv 14))) (pe_lst pa_nil) (nomark _))))) (pss_one (ps_ret pe_bl)) pss_nil)
      (pss_cons (ps_set (i := 2) sc__law_sound.nd rfl (.inl rfl) (pe_disp (pps_cons pe_str pe_int (pps_cons pe_str pe_int (pps_cons pe_str pe_int (pps_cons pe_str pe_int (pps_cons pe_str pe_int (pps_cons pe_str pe_int (pps_cons pe_str pe_int (pps_cons pe_str pe_int pps_nil)))))))) (by rfl) (by rfl) (fun z => by cases z) (by decide)))
      (pss_cons (ps_set (i := 3) sc__law_sound.nd rfl (.inl rfl) (pe_disp (pps_cons pe_str pe_int (pps_cons pe_str pe_int (pps_cons pe_str pe_int (pps_cons pe_str pe_int (pps_cons pe_str pe_int (pps_cons pe_str pe_int (pps_cons pe_str pe_int pps_nil))))))) (by rfl) (by rfl) (fun z => by cases z) (by decide)))
      (pss_cons (ps_set (i := 4) sc__law_sound.nd rfl (.inl rfl) (pe_disp (pps_cons pe_int pe_int pps_nil) (by rfl) (by rfl) (fun z => by cases z) (by decide)))
      (pss_cons (ps_set (i := 5) sc__law_sound.nd rfl (.inl rfl) (pe_lst (pa_cons pe_int pa_nil)))
      (Evl.pss_cut (ps_while PassesOwn.never (pt_cmpR (op_neN hr.units) (pv 5) (pe_lst pa_nil) (nomark _)) (pss_cons (ps_set (i := 6) sc__law_sound.nd rfl (.inl rfl) (pe_bm0 PySem.F.plainAttrs_list PySem.F.slot_list_pop PySem.F.type_list_pop mt_pop (pv 5)))
      (pss_cons (ps_set (i := 7) sc__law_sound.nd rfl (.inl rfl) (pe_ix ix_tup (pe_ix ix_tup (pv 1) (pv 6) (fun _ _ => rfl)) pe_int (fun _ _ => rfl)))
      (pss_cons (ps_set (i := 8) sc__law_sound.nd rfl (.inl rfl) (pe_op op_sub (pe_dget hu (pv 4) (pv 6) (fun _ _ => rfl)) (pe_dget2 (lt_units hr.units) (pv 2) (pv 7) pe_int ⟨rfl, rfl, rfl, rfl⟩)))
      (Evl.pss_cut (ps_if (PW.pt (pw_or (pt_cmpR op_lt (pv 8) pe_int (nomark _)) (pw_or1 (PW.pt (pw_and (pt_cmpR op_in_seq (pv 7) (pe_lst (pa_cons pe_str (pa_cons pe_str pa_nil))) (by rfl)) (pw_and1 (pt_cmpR op_ne (pe_dget hu (pv 4) (pv 6) (fun _ _ => rfl)) pe_int (nomark _)))))))) (pss_one (ps_ret pe_bl)) pss_nil)
      (pss_cons (ps_set (i := 8) sc__law_sound.nd rfl (.inl rfl) (pe_op op_add (pv 8) (pe_dget2 (lt_units hr.units) (pv 3) (pv 7) pe_int ⟨rfl, rfl, rfl, rfl⟩)))
      (pss_one (ps_for PassesOwn.never rfl (pi_list (pe_call c__law_moves.G (hr.mono (by decide)) (by rfl) c__law_moves.m c__law_moves.k c__law_moves.b .nil pass0 (pa_cons (pv 1) (pa_cons (pv 6) pa_nil)))) (pg_tup (by rfl) (pgs_cons (pg_name (i := 9) sc__law_sound.nd rfl (.inl rfl)) (pgs_cons (pg_name (i := 10) sc__law_sound.nd rfl (.inl rfl)) pgs_nil))) (pss_cons (ps_if (PW.pt (pw_or (pt_cmpR op_ge (pv 9) (pe_callB call_len_seq (by rfl) T.len PySem.boot_len (pa_cons (pv 1) pa_nil)) (nomark _)) (pw_or (pt_cmpR op_gt (pv 8) pe_int (nomark _)) (pw_or1 (pt_cmpR op_ne (pe_dget2 (lt_units hr.units) (pv 4) (pv 9) (pv 8) ⟨rfl, rfl, rfl, rfl⟩) (pv 8) (nomark _)))))) (pss_one (ps_ret pe_bl)) pss_nil)
      (pss_one (ps_if (pt_cmp (pc_dnotin hu (pv 9) (pv 4))) (pss_cons (ps_dput hu (pv 4) (pv 9) (pv 8) rfl)
      (pss_one (ps_expr (pe_bm PySem.F.plainAttrs_list PySem.F.slot_list_append PySem.F.type_list_append mt_append (pv 5) (pa_cons (pv 9) pa_nil))))) pss_nil)))))))))))
      (pss_cons (ps_lock (ps_for PassesOwn.never rfl (pi_keys (pv 4)) (pg_name (i := 11) sc__law_sound.nd rfl (.inl rfl)) (pss_cons (ps_set (i := 12) sc__law_sound.nd rfl (.inl rfl) (pe_lst (pa_cons (pv 11) pa_nil)))
      (pss_cons (ps_set (i := 13) sc__law_sound.nd rfl (.inl rfl) pe_int)
      (pss_one (ps_while PassesOwn.never (pt_cmpR op_lt (pv 13) (pe_callB call_len_seq (by rfl) T.len PySem.boot_len (pa_cons (pv 12) pa_nil)) (nomark _)) (pss_cons (ps_for PassesOwn.never rfl (pi_list (pe_call c__law_moves.G (hr.mono (by decide)) (by rfl) c__law_moves.m c__law_moves.k c__law_moves.b .nil pass0 (pa_cons (pv 1) (pa_cons (pe_ix ix_list (pv 12) (pv 13) (fun _ _ => rfl)) pa_nil)))) (pg_tup (by rfl) (pgs_cons (pg_name (i := 9) sc__law_sound.nd rfl (.inl rfl)) (pgs_cons (pg_name (i := 10) sc__law_sound.nd rfl (.inl rfl)) pgs_nil))) (pss_cons (ps_if (PW.pt (pw_and (pt_not (pt_val (pv 10))) (pw_and1 (pt_cmpR op_eq (pv 9) (pv 11) (nomark _))))) (pss_one (ps_ret pe_bl)) pss_nil)
      (pss_one (ps_if (PW.pt (pw_and (pt_not (pt_val (pv 10))) (pw_and1 (pt_cmpR op_notIn_seq (pv 9) (pv 12) (by rfl))))) (pss_one (ps_expr (pe_bm PySem.F.plainAttrs_list PySem.F.slot_list_append PySem.F.type_list_append mt_append (pv 12) (pa_cons (pv 9) pa_nil)))) pss_nil))))
      (pss_one (ps_set (i := 13) sc__law_sound.nd rfl (.inl rfl) (pe_op op_add (pv 13) pe_int))))))))))
      (pss_one (ps_ret pe_bl))))))))), ?_⟩
    refine ⟨_, rfl, Nat.zero_le _, fun t ht => ?_⟩
    have s1 := same_upd (o := .tup ([] : List V)) ht
    refine ⟨cd, t, us, C.map I24.dt, rfl, rfl, SqT.of (s1 _ _ hcd), AtL.keep s1 hus, code_lay hwf, SqT.of upd_same, _, rfl, ?_⟩
    have hem : (C.map I24.dt).isEmpty = C.isEmpty := by cases C <;> rfl
    rw [hem]
    cases hce : C.isEmpty with
    | true => exact iteT (iteT (k false ⟨fun z => (by cases z), fun z => absurd (List.isEmpty_iff.mp hce) z.1⟩ _ s1))
    | false =>
      have hC0 : C ≠ [] := fun z => by rw [z] at hce; cases hce
      have hpos : 0 < C.length := List.length_pos_iff.mpr hC0
      have hcd1 := s1 _ _ hcd
      generalize upd H t (.tup ([] : List V)) = H1 at s1 hcd1
      refine iteF ⟨_, rfl, cd, rfl, ⟨_, SqT.of hcd1⟩, fun D nD => ?_⟩
      have nD0 : H D = none := by
        cases z : H D with
        | none => rfl
        | some o => rw [s1 _ _ z] at nD; cases nD
      refine lc_tup (K := K) (a := cd) (xs := us) (fun i H2 => ∃ vs, H2 D = some (.lst vs) ∧ vs.length ≤ i ∧ AtL K H (((C.take i).filter fun a => !okIns ends (C.length : Nat) a).map I24.dt) vs ∧ Same H H2) ⟨[], upd_same, Nat.le_refl _, by simp only [List.take_zero, List.filter_nil, List.map_nil, AtL], same_off nD0 s1⟩ (fun i H2 _ x => by obtain ⟨_, _, _, _, s⟩ := x; exact SqT.of (s _ _ hcd)) ?_ ?_
      · rintro i x H2 hx ⟨vs, hD, hl, hA, s2⟩
        have hi : i < C.length := by
          have := (List.getElem?_eq_some_iff.mp hx).1
          omega
        obtain ⟨v, e1, e2⟩ := hus.get (i := i) (d := (C[i]).dt) (by rw [List.getElem?_map, List.getElem?_eq_getElem hi]; rfl)
        rw [hx] at e1
        cases e1
        have etk : C.take (i + 1) = C.take i ++ [C[i]] := by rw [List.take_add_one, List.getElem?_eq_getElem hi]; rfl
        refine ⟨rfl, _, rfl, _, rfl, _, rfl, cd, _, rfl, .inr (SqT.of (s2 _ _ hcd)), x, e, ends, ((us.length : Nat) : Int), C[i], rfl, e2.keep s2, Same.tup s2 he, hwf _ (List.getElem_mem hi), fun H3 s3 => ⟨_, rfl, ?_⟩⟩
        rw [lu]
        cases hok : okIns ends (C.length : Nat) C[i] with
        | true =>
          refine iteF ⟨vs, s3 _ _ hD, by omega, ?_, Same.trans s2 s3⟩
          rw [etk, List.filter_append, List.filter_cons_of_neg (by rw [hok]; decide), List.filter_nil, List.append_nil]
          exact hA
        | false =>
          refine iteT ⟨_, rfl, vs, s3 _ _ hD, sz6' (by omega), vs ++ [x], upd_same, by rw [List.length_append, List.length_singleton]; omega, ?_, same_off nD0 (Same.trans s2 s3)⟩
          rw [etk, List.filter_append, List.filter_cons_of_pos (by rw [hok]; decide), List.filter_nil, List.map_append]
          exact AtL.snoc e2 hA
      rintro H2 ⟨vs, hD, hl, hA, s2⟩
      rw [lu, List.take_length] at hA
      refine ⟨Nat.zero_le _, fun t2 ht2 => ?_⟩
      have s3 := same_upd (o := .lst ([] : List V)) ht2
      refine ⟨D, t2, vs, _, rfl, rfl, SqL.of (s3 _ _ hD), AtL.keep (Same.trans s2 s3) hA, code_lay (fun a ha => hwf a (List.mem_filter.mp ha).1), SqL.of upd_same, _, rfl, ?_⟩
      have sm3 := Same.trans s2 s3
      generalize upd H2 t2 (.lst ([] : List V)) = H3 at sm3
      cases hfe : (C.filter fun a => !okIns ends (C.length : Nat) a) with
      | cons b0 B0 =>
        refine iteT (k false ⟨fun z => (by cases z), fun z => ?_⟩ _ sm3)
        have hm : b0 ∈ C.filter fun a => !okIns ends (C.length : Nat) a := by rw [hfe]; exact List.mem_cons_self ..
        obtain ⟨m1, m2⟩ := List.mem_filter.mp hm
        rw [z.2.1 b0 m1] at m2
        cases m2
      | nil =>
        have hall : ∀ a ∈ C, okIns ends (C.length : Nat) a = true := fun a ha => by
          cases hz : okIns ends (C.length : Nat) a with
          | true => rfl
          | false =>
            have : a ∈ C.filter fun a => !okIns ends (C.length : Nat) a := List.mem_filter.mpr ⟨ha, by rw [hz]; rfl⟩
            rw [hfe] at this
            cases this
        have vc : VC ends C := ⟨hall, hwf, h60⟩
        refine iteF ?_
        clear hA hD hl
        intro d1 n1
        refine ⟨upd_same, tabI tkL, rfl, by decide, ?_⟩
        have sA : Same H3 (upd (upd H3 d1 (.dK [])) d1 (.dK (mergeK [] (tabI tkL)))) := same_off n1 (same_upd n1)
        have hA : (upd (upd H3 d1 (.dK [])) d1 (.dK (mergeK [] (tabI tkL)))) d1 = some (.dK (tabI tkL)) := by rw [upd_same, mi1]
        generalize upd (upd H3 d1 (.dK [])) d1 (.dK (mergeK [] (tabI tkL))) = H4 at sA hA
        intro d2 n2
        refine ⟨upd_same, tabI ptL, rfl, by decide, ?_⟩
        have sB : Same H4 (upd (upd H4 d2 (.dK [])) d2 (.dK (mergeK [] (tabI ptL)))) := same_off n2 (same_upd n2)
        have hB : (upd (upd H4 d2 (.dK [])) d2 (.dK (mergeK [] (tabI ptL)))) d2 = some (.dK (tabI ptL)) := by rw [upd_same, mi2]
        generalize upd (upd H4 d2 (.dK [])) d2 (.dK (mergeK [] (tabI ptL))) = H5 at sB hB
        have hA5 := sB _ _ hA
        intro hd n3
        refine ⟨upd_same, [(Sum.inl 0, V.int 0)], rfl, by decide, ?_⟩
        have sD : Same H5 (upd (upd H5 hd (.dK [])) hd (.dK (mergeK [] [(Sum.inl 0, V.int 0)]))) := same_off n3 (same_upd n3)
        have hD : (upd (upd H5 hd (.dK [])) hd (.dK (mergeK [] [(Sum.inl 0, V.int 0)]))) hd = some (.dK (dkv [(0, 0)])) := by
          rw [upd_same]
          rfl
        generalize upd (upd H5 hd (.dK [])) hd (.dK (mergeK [] [(Sum.inl 0, V.int 0)])) = H6 at sD hD
        refine ⟨by show 1 ≤ sizeLine; decide, fun wd n4 => ?_⟩
        have s36 := Same.trans sA (Same.trans sB sD)
        have sW := same_upd (o := .lst [V.int 0]) n4
        have hs0 : Hs H (upd H6 wd (.lst [V.int 0])) d1 d2 hd wd [(0, 0)] [0] :=
          ⟨Same.trans sm3 (Same.trans s36 sW), sW _ _ (sD _ _ hA5), sW _ _ (sD _ _ hB), sW _ _ hD, upd_same, ne_of_none hA5 n3, ne_of_none hB n3, none_of (Same.trans sm3 (Same.trans sA sB)) n3, none_of (Same.trans sm3 s36) n4⟩
        refine ⟨fun σ H' => ∃ (D : List (Nat × Int)) (y6 y7 y8 y9 y10 : Option V), σ = [some (.ref e), some (.ref cd), some (.ref d1), some (.ref d2), some (.ref hd), some (.ref wd), y6, y7, y8, y9, y10, none, none, none, none] ∧ Hs H H' d1 d2 hd wd D [] ∧ HInv C.length (nxOf C) (hbOf C) D [], ?_, ?_⟩
        · refine ⟨fun m σ H' => ∃ (D : List (Nat × Int)) (W : List Nat) (y6 y7 y8 y9 y10 : Option V), σ = [some (.ref e), some (.ref cd), some (.ref d1), some (.ref d2), some (.ref hd), some (.ref wd), y6, y7, y8, y9, y10, none, none, none, none] ∧ Hs H H' d1 d2 hd wd D W ∧ HInv C.length (nxOf C) (hbOf C) D W ∧ (∀ p ∈ D, p.2 ≤ 40) ∧ m + D.length = C.length + W.length,
            ⟨C.length, [(0, 0)], [0], _, _, _, _, _, rfl, hs0, .start hpos, fun p hp => by rw [List.mem_singleton.mp hp]; decide, by simp⟩, ?_⟩
          rintro m σ H' ⟨D, W, y6, y7, y8, y9, y10, rfl, hs, I, hle, hm⟩
          refine ⟨_, rfl, Nat.zero_le _, fun t3 ht3 => ?_⟩
          have hs1 := hs.keep (same_upd (o := .lst ([] : List V)) ht3)
          refine ⟨wd, t3, natsV W, W.map (fun x => Dt.int (x : Nat)), rfl, rfl, SqL.of hs1.w, nats_at W, nats_lay W, SqL.of upd_same, _, rfl, ?_⟩
          rw [nats_em]
          generalize upd H' t3 (.lst ([] : List V)) = H'' at hs1
          clear hs
          rcases List.eq_nil_or_concat W with rfl | ⟨W0, a, rfl⟩
          · exact iteF ⟨D, _, _, _, _, _, rfl, hs1, I⟩
          rw [List.concat_eq_append] at *
          have enb : (!(W0 ++ [a]).isEmpty) = true := by cases W0 <;> rfl
          rw [enb]
          refine iteT ⟨_, fun _ _ h => h, ?_⟩
          have el : (natsV (W0 ++ [a])) = natsV W0 ++ [V.int (a : Nat)] := by unfold natsV; rw [List.map_append]; rfl
          have hw1 := hs1.w
          rw [el] at hw1
          refine ⟨_, rfl, .inl ⟨rfl, _, SqL.of hw1⟩, wd, _, V.int (a : Nat), rfl, rfl, hw1, ?_, ?_⟩
          · rw [List.length_append, List.length_singleton, Nat.add_sub_cancel, List.getElem?_append_right (Nat.le_refl _), Nat.sub_self]
            rfl
          rw [List.dropLast_concat]
          have hs2 : Hs H (upd H'' wd (.lst (natsV W0))) d1 d2 hd wd D W0 := hs1.setW
          generalize upd H'' wd (.lst (natsV W0)) = H7 at hs2
          clear hs1 hw1
          obtain ⟨hh, hmem⟩ := mem_keys (I.ws a (by simp))
          have Mid := I.mid hmem
          have hh0 : 0 ≤ hh := rch_nn (I.r _ hmem).1
          have hh40 : hh ≤ 40 := hle _ hmem
          have hal : a < C.length := (I.r _ hmem).2
          obtain ⟨ia, eia⟩ : ∃ ia, C[a]? = some ia := ⟨_, List.getElem?_eq_getElem hal⟩
          obtain ⟨ss, hf⟩ := vc.form ia (List.mem_of_getElem? eia)
          have ehb : hbW ia.w hh = hbOf C a hh := by unfold hbOf; rw [eia]
          obtain ⟨ln1, ln2⟩ := law_now hf hh0
          rw [ehb] at ln1 ln2
          have hC7 := hC.keep hs2.s
          obtain ⟨us7, hcd7, hus7⟩ := id hC7
          obtain ⟨p, r, hu', hp, hr'⟩ := code_get hus7 eia
          have hix : atI us7 ((a : Nat) : Int) = some (.ref p) := atI_nat hu'
          have hget : ∀ {H8 : Hp}, H8 hd = some (.dK (dkv D)) → DGet H8 hd (.int ((a : Nat) : Int)) (some (.int hh)) := fun hz => by
            have := DGet.k (k := Sum.inl ((a : Nat) : Int)) hz
            rw [dkv_some I.nd hmem] at this
            exact this
          refine ⟨_, rfl, _, rfl, cd, _, _, _, rfl, rfl, SqT.of hcd7, hix, p, _, _, _, rfl, rfl, SqT.of hp, atI_nat (j := 0) rfl, ?_⟩
          refine ⟨_, rfl, _, rfl, hd, _, rfl, hget hs2.h, _, rfl, d1, rfl, .inl ⟨_, .inl hs2.t⟩, _, rfl, _, .k (k := Sum.inr ia.w) hs2.t, ?_⟩
          rw [val_tabI]
          refine ⟨_, _, rfl, rfl, ?_⟩
          refine ⟨fun σ8 H8 => σ8 = [some (.ref e), some (.ref cd), some (.ref d1), some (.ref d2), some (.ref hd), some (.ref wd), some (.int (a : Nat)), some (.str ia.w), some (.int (hh - lkI tkL ia.w)), y9, y10, none, none, none, none] ∧ Hs H H8 d1 d2 hd wd D W0 ∧ ¬ hbOf C a hh < 0, ?_, ?_⟩
          · have bad : hbOf C a hh < 0 → ∀ H8, Same H H8 → Q (.bl false) H8 := fun z H8 s8 => k false ⟨fun z => (by cases z), fun sd => absurd sd.2.2.1 (Mid.bad1 (.inl z))⟩ H8 s8
            refine ⟨_, rfl, _, _, rfl, rfl, _, rfl, ?_⟩
            by_cases c0 : hh - lkI tkL ia.w < 0
            · rw [decide_eq_true c0]
              exact iteT (iteT (bad (ln1.mp (.inl c0)) _ hs2.s))
            rw [decide_eq_false c0]
            refine iteF ⟨_, rfl, by show 2 ≤ sizeLine; decide, fun t4 ht4 => ?_⟩
            have hs3 := hs2.keep (same_upd (o := .lst ((["stop", "wait"] : List Str).map V.str)) ht4)
            refine ⟨t4, (["stop", "wait"] : List Str).map V.str, rfl, .inl (SqL.of upd_same), rfl, rfl, _, rfl, ?_⟩
            rw [show (if false = true then !inV (V.str ia.w) ((["stop", "wait"] : List Str).map V.str) else inV (V.str ia.w) ((["stop", "wait"] : List Str).map V.str)) = decide (ia.w ∈ (["stop", "wait"] : List Str)) by rw [if_neg (by decide), inV_str]]
            by_cases c1 : ia.w ∈ (["stop", "wait"] : List Str)
            · rw [decide_eq_true c1]
              refine iteT ⟨_, rfl, _, rfl, hd, _, rfl, hget hs3.h, rfl, _, rfl, ?_⟩
              by_cases c2 : hh = 0
              · rw [decide_eq_true (show V.int hh = V.int 0 by rw [c2])]
                refine iteF ⟨rfl, hs3, fun z => ?_⟩
                rcases ln1.mpr z with z | z
                · exact c0 z
                · exact z.2 c2
              · rw [decide_eq_false (show ¬ V.int hh = V.int 0 from fun z => c2 (by injection z))]
                exact iteT (bad (ln1.mp (.inr ⟨c1, c2⟩)) _ hs3.s)
            · rw [decide_eq_false c1]
              refine iteF (iteF ⟨rfl, hs3, fun z => ?_⟩)
              rcases ln1.mpr z with z | z
              · exact c0 z
              · exact c1 z.1
          rintro σ8 H8 ⟨rfl, hs3, c0⟩
          clear hs2 hcd7 hus7 hC7 hp hr' hu' hix
          have enow := ln2 c0
          refine ⟨_, rfl, _, rfl, d2, rfl, .inl ⟨_, .inl hs3.p⟩, _, rfl, _, .k (k := Sum.inr ia.w) hs3.p, ?_⟩
          rw [val_tabI]
          refine ⟨_, _, rfl, rfl, ?_⟩
          have h0 : 0 ≤ hbOf C a hh := by omega
          refine ⟨_, rfl, _, rfl, cd, ends, C, a, ia, rfl, hC.keep hs3.s, vc, eia, fun q H9 s9 nq hq => ?_⟩
          have emv : mvOf C a = movesOf ia a := by unfold mvOf; rw [eia]
          rw [← emv] at hq
          obtain ⟨vs, hvs, hA⟩ := hq
          have lvs := hA.length
          rw [List.length_map] at lvs
          have qh : q ≠ hd := (ne_of_none hs3.h nq).symm
          have qw : q ≠ wd := (ne_of_none hs3.w nq).symm
          refine ⟨q, rfl, ⟨_, SqL.of hvs⟩, ?_⟩
          rw [List.length_append, List.length_singleton] at hm
          refine for_list (K := K) (a := q) (xs := vs) (fun j σ H5 => ∃ (D : List (Nat × Int)) (W : List Nat) (y9 y10 : Option V), σ = [some (.ref e), some (.ref cd), some (.ref d1), some (.ref d2), some (.ref hd), some (.ref wd), some (.int (a : Nat)), some (.str ia.w), some (.int (hh - lkI tkL ia.w + lkI ptL ia.w)), y9, y10, none, none, none, none] ∧ Hs H H5 d1 d2 hd wd D W ∧ H5 q = some (.lst vs) ∧ AtL K H5 ((mvOf C a).map mvD) vs ∧
            HMid C.length (nxOf C) (hbOf C) a hh (((mvOf C a).map (·.1)).take j) D W ∧ (∀ p ∈ D, p.2 ≤ 40) ∧ m + D.length = C.length + W.length + 1) ⟨D, W0, _, _, rfl, hs3.keep s9, hvs, hA, by rw [List.take_zero]; exact Mid, hle, by omega⟩ (fun j σ H5 _ x => ?_) ?_ ?_
          · obtain ⟨_, _, _, _, _, _, x, _⟩ := x
            exact SqL.of x
          · rintro j x σ H5 hx ⟨D, W, y9, y10, rfl, hs5, hq5, hA5, M, hle5, hm5⟩
            rw [enow]
            have hj : j < (mvOf C a).length := by
              have := (List.getElem?_eq_some_iff.mp hx).1
              omega
            obtain ⟨y, f1, f2⟩ := hA5.get (i := j) (d := mvD (mvOf C a)[j]) (by rw [List.getElem?_map, List.getElem?_eq_getElem hj]; rfl)
            rw [hx] at f1
            cases f1
            have hmv : (mvOf C a)[j] ∈ mvOf C a := List.getElem_mem hj
            have etk : ((mvOf C a).map (·.1)).take (j + 1) = ((mvOf C a).map (·.1)).take j ++ [(mvOf C a)[j].1] := by rw [List.take_add_one, List.getElem?_map, List.getElem?_eq_getElem hj]; rfl
            rw [etk]
            generalize (mvOf C a)[j] = mv at f2 hmv
            obtain ⟨g, dd⟩ := mv
            have hg : g ∈ nxOf C a := (nx_mv vc.form a g).mpr ⟨dd, hmv⟩
            simp only [mvD, At, AtL] at f2
            obtain ⟨Tt, zs, rfl, hT, _, _, rfl, rfl, _, _, rfl, rfl, rfl⟩ := f2
            obtain ⟨us5, hcd5, hus5⟩ := hC.keep hs5.s
            have l5 := hus5.length
            rw [List.length_map] at l5
            refine ⟨Tt, _, rfl, SqT.of hT, rfl, _, _, rfl, _, _, rfl, rfl, ?_⟩
            refine ⟨_, rfl, _, rfl, cd, _, rfl, .inr (SqT.of hcd5), _, _, rfl, rfl, _, rfl, ?_⟩
            rw [l5]
            have bad : ¬ OKh C.length (nxOf C) (hbOf C) → Q (.bl false) H5 := fun z => k false ⟨fun z => (by cases z), fun sd => absurd sd.2.2.1 z⟩ H5 hs5.s
            by_cases d0 : (C.length : Int) ≤ (g : Int)
            · rw [decide_eq_true d0]
              exact iteT (iteT (bad (M.bad2 h0 hh40 hg (by omega))))
            rw [decide_eq_false d0]
            have hgl : g < C.length := by omega
            refine iteF ⟨_, rfl, _, _, rfl, rfl, _, rfl, ?_⟩
            by_cases d4 : (40 : Int) < hbOf C a hh
            · rw [decide_eq_true d4]
              exact iteT (iteT (bad (M.bad4 h0 hh40 hg d4)))
            rw [decide_eq_false d4]
            refine iteF ⟨_, rfl, hd, rfl, .inl ⟨_, Rd.of hs5.h⟩, _, rfl, _, rfl, ?_⟩
            have dg := DGet.k (k := Sum.inl ((g : Nat) : Int)) hs5.h
            by_cases d1' : g ∈ D.map (·.1)
            · obtain ⟨kk, hkk⟩ := mem_keys d1'
              rw [dkv_some M.nd hkk] at dg
              refine ⟨_, dg, _, rfl, rfl, _, rfl, ?_⟩
              show if (!decide (V.int kk = V.int (hbOf C a hh))) = true then _ else _
              by_cases d2' : kk = hbOf C a hh
              · rw [decide_eq_true (by rw [d2'])]
                refine iteF ?_
                refine ⟨_, rfl, _, rfl, hd, _, rfl, dg, _, rfl, iteF ?_⟩
                exact ⟨D, W, _, _, rfl, hs5, hq5, hA5, M.old hgl (by rw [← d2']; exact hkk), hle5, hm5⟩
              · rw [decide_eq_false (show ¬ V.int kk = V.int (hbOf C a hh) from fun z => d2' (by injection z))]
                exact iteT (bad (M.bad3 h0 hh40 hg hkk d2'))
            · rw [dkv_none d1'] at dg
              refine ⟨_, dg, _, rfl, rfl, _, rfl, ?_⟩
              show if (!decide (V.int (hbOf C a hh) = V.int (hbOf C a hh))) = true then _ else _
              rw [decide_eq_true rfl]
              refine iteF ?_
              refine ⟨_, rfl, _, rfl, hd, _, rfl, dg, _, rfl, iteT ?_⟩
              have lD := keys_le M.nd fun p hp => (M.r p hp).2
              have M2 := M.new h0 hh40 hgl hg d1'
              have lD2 := keys_le M2.nd fun p hp => (M2.r p hp).2
              rw [List.length_append, List.length_singleton] at lD2
              refine ⟨_, rfl, _, rfl, _, rfl, hd, _, rfl, DPut.k (k := Sum.inl ((g : Nat) : Int)) hs5.h (by unfold dkv; rw [List.length_map]; exact sz6' (by omega)), ?_⟩
              rw [dkv_put d1']
              have hsD : Hs H (upd H5 hd (.dK (dkv (D ++ [(g, hbOf C a hh)])))) d1 d2 hd wd (D ++ [(g, hbOf C a hh)]) W := hs5.setD
              have hqD : (upd H5 hd (.dK (dkv (D ++ [(g, hbOf C a hh)])))) q = some (.lst vs) := by rw [upd_ne qh]; exact hq5
              have hAD : AtL K (upd H5 hd (.dK (dkv (D ++ [(g, hbOf C a hh)])))) ((mvOf C a).map mvD) vs := AtL.kpT (kpT_dk hs5.h) (tupO_mv _) hA5
              generalize upd H5 hd (.dK (dkv (D ++ [(g, hbOf C a hh)]))) = H6' at hsD hqD hAD
              refine ⟨_, rfl, .inl ⟨rfl, _, SqL.of hsD.w⟩, _, rfl, wd, _, _, rfl, rfl, hsD.w, ?_, ?_⟩
              · unfold natsV
                rw [List.length_map]
                have : W.length ≤ D.length := by
                  have := List.Nodup.length_le_of_subset M.wn (fun x hx => M.ws x hx : W ⊆ D.map (·.1))
                  rwa [List.length_map] at this
                exact sz6' (by omega)
              have enw : natsV W ++ [V.int (g : Nat)] = natsV (W ++ [g]) := by unfold natsV; rw [List.map_append]; rfl
              rw [enw]
              refine ⟨D ++ [(g, hbOf C a hh)], W ++ [g], _, _, rfl, hsD.setW, by rw [upd_ne qw]; exact hqD, AtL.kpT (kpT_lst hsD.w) (tupO_mv _) hAD, M2, fun p hp => ?_, ?_⟩
              · rcases List.mem_append.mp hp with hp | hp
                · exact hle5 p hp
                · rw [List.mem_singleton.mp hp]
                  show hbOf C a hh ≤ 40
                  omega
              · rw [List.length_append, List.length_append, List.length_singleton, List.length_singleton]
                omega
          · rintro σ H5 ⟨D, W, y9, y10, rfl, hs5, hq5, hA5, M, hle5, hm5⟩
            rw [lvs, List.take_of_length_le (by rw [List.length_map]; exact Nat.le_refl _)] at M
            have I5 := M.done h0 hh40 fun g hg => by
              obtain ⟨d, hd⟩ := (nx_mv vc.form a g).mp hg
              exact List.mem_map.mpr ⟨_, hd, rfl⟩
            have := keys_le I5.nd fun p hp => (I5.r p hp).2
            exact ⟨m - 1, by omega, D, W, _, _, _, _, _, rfl, hs5, I5, hle5, by omega⟩
        · rintro σ H' ⟨D, y6, y7, y8, y9, y10, rfl, hs, I⟩
          refine ⟨hd, .dK (dkv D), hs.h, trivial, fun od => ?_⟩
          have sf : Same H (upd H' hd (.frz od (.dK (dkv D)))) := same_off hs.o1 hs.s
          have hf : (upd H' hd (.frz od (.dK (dkv D)))) hd = some (.frz od (.dK (dkv D))) := upd_same
          have o1 := hs.o1
          refine ⟨_, rfl, hd, od, rfl, .inl ⟨_, hf, ?_⟩⟩
          refine for_it walk_keys (fun i σ H2 => ∃ (y6 y7 y8 y9 y10 y11 y12 y13 : Option V), σ = [some (.ref e), some (.ref cd), some (.ref d1), some (.ref d2), some (.ref hd), some (.ref wd), y6, y7, y8, y9, y10, y11, y12, y13, none] ∧ Same H H2 ∧ H2 hd = some (.frz od (.dK (dkv D))) ∧ ∀ p ∈ D.take i, ¬ Pth (qOf C) p.1 p.1)
            ⟨_, _, _, _, _, _, _, _, rfl, sf, hf, fun p hp => by rw [List.take_zero] at hp; cases hp⟩ (fun i σ H2 _ x => by obtain ⟨_, _, _, _, _, _, _, _, _, _, x, _⟩ := x; exact x) ?_ ?_
          · rintro i x σ H2x H2 hi ⟨y6, y7, y8, y9, y10, y11, y12, y13, rfl, s2, hf2, hno⟩ ⟨rfl, kk, vv, hkv, rfl⟩
            obtain ⟨p, hp, rfl⟩ : ∃ p, D[i]? = some p ∧ kk = Sum.inl ((p.1 : Nat) : Int) := by
              unfold dkv at hkv
              rw [List.getElem?_map] at hkv
              cases z : D[i]? with
              | none => rw [z] at hkv; cases hkv
              | some p =>
                rw [z] at hkv
                have : (Sum.inl ((p.1 : Nat) : Int), V.int p.2) = (kk, vv) := Option.some.inj hkv
                injection this with e1 e2
                exact ⟨p, rfl, e1.symm⟩
            have etk : D.take (i + 1) = D.take i ++ [p] := by rw [List.take_add_one, hp]; rfl
            have hpm := List.mem_of_getElem? hp
            have hrch : ∃ h, Rch C.length (nxOf C) (hbOf C) p.1 h := ⟨_, (I.r p hpm).1⟩
            rw [etk]
            obtain ⟨st, sth⟩ := p
            have hqn : ∀ a g, g ∈ qOf C a → g ∈ nxOf C a := q_nx vc.form
            refine ⟨_, rfl, by show 1 ≤ sizeLine; decide, fun rd nrd => ?_⟩
            have o3 : H rd = none := none_of s2 nrd
            have s3 := same_upd (o := .lst [V.int (st : Nat)]) nrd
            have hf3 := s3 _ _ hf2
            have sH3 := Same.trans s2 s3
            have hrd3 : (upd H2 rd (.lst [V.int (st : Nat)])) rd = some (.lst (natsV [st])) := upd_same
            refine ⟨fun m σ H4 => ∃ (L : List Nat) (kq : Nat) (y6 y7 y8 y9 y10 : Option V), σ = [some (.ref e), some (.ref cd), some (.ref d1), some (.ref d2), some (.ref hd), some (.ref wd), y6, y7, y8, y9, y10, some (.int (st : Nat)), some (.ref rd), some (.int (kq : Nat)), none] ∧ Same H H4 ∧ H4 hd = some (.frz od (.dK (dkv D))) ∧ H4 rd = some (.lst (natsV L)) ∧ SInv (qOf C) st L kq ∧ kq ≤ L.length ∧ m + kq = C.length,
              ⟨C.length, [st], 0, _, _, _, _, _, rfl, sH3, hf3, hrd3, .start _ _, Nat.zero_le _, rfl⟩, ?_⟩
            rintro m σ H4 ⟨L, kq, y6, y7, y8, y9, y10, rfl, s4, hf4, hrd4, S, hkl, hm⟩
            have rL : ∀ L : List Nat, L.Nodup → (∀ y ∈ L, y = st ∨ Pth (qOf C) st y) → (∀ y ∈ L, (∃ h, Rch C.length (nxOf C) (hbOf C) y h)) ∧ L.length ≤ C.length := fun L nd hL => by
              have q : ∀ y ∈ L, ∃ h, Rch C.length (nxOf C) (hbOf C) y h := fun y hy => by
                rcases hL y hy with rfl | pp
                · exact hrch
                · exact rch_q I.ok hqn pp hrch
              exact ⟨q, nats_le nd fun y hy => by
                obtain ⟨h, r⟩ := q y hy
                exact (I.ok _ _ r).1⟩
            have hL60 := (rL L S.nd S.r).2
            refine ⟨_, rfl, _, rfl, rd, _, rfl, .inl (SqL.of hrd4), _, _, rfl, rfl, _, rfl, ?_⟩
            rw [show (natsV L).length = L.length by unfold natsV; rw [List.length_map]]
            by_cases ck : ((kq : Nat) : Int) < ((L.length : Nat) : Int)
            · rw [decide_eq_true ck]
              refine iteT ⟨_, fun _ _ h => h, ?_⟩
              have ckn : kq < L.length := by omega
              obtain ⟨x, hx⟩ : ∃ x, L[kq]? = some x := ⟨_, List.getElem?_eq_getElem ckn⟩
              have hat : atI (natsV L) ((kq : Nat) : Int) = some (.int (x : Nat)) := atI_nat (by unfold natsV; rw [List.getElem?_map, hx]; rfl)
              obtain ⟨hxr, r⟩ := (rL L S.nd S.r).1 x (List.mem_of_getElem? hx)
              have hxl := (I.ok _ _ r).1
              obtain ⟨ia, eia⟩ : ∃ ia, C[x]? = some ia := ⟨_, List.getElem?_eq_getElem hxl⟩
              refine ⟨_, rfl, _, rfl, _, rfl, rd, _, _, _, rfl, rfl, SqL.of hrd4, hat, cd, ends, C, x, ia, rfl, hC.keep s4, vc, eia, fun q H5 s5 nq hq => ?_⟩
              have emv : mvOf C x = movesOf ia x := by unfold mvOf; rw [eia]
              rw [← emv] at hq
              obtain ⟨vs, hvs, hA⟩ := hq
              have lvs := hA.length
              rw [List.length_map] at lvs
              have qr : q ≠ rd := (ne_of_none hrd4 nq).symm
              refine ⟨q, rfl, ⟨_, SqL.of hvs⟩, ?_⟩
              refine for_list (K := K) (a := q) (xs := vs) (fun j σ H6 => ∃ (L : List Nat) (y6 y7 y8 y9 y10 : Option V), σ = [some (.ref e), some (.ref cd), some (.ref d1), some (.ref d2), some (.ref hd), some (.ref wd), y6, y7, y8, y9, y10, some (.int (st : Nat)), some (.ref rd), some (.int (kq : Nat)), none] ∧ Same H H6 ∧ H6 hd = some (.frz od (.dK (dkv D))) ∧ H6 rd = some (.lst (natsV L)) ∧ H6 q = some (.lst vs) ∧ AtL K H6 ((mvOf C x).map mvD) vs ∧
                SMid (qOf C) st L kq x ((((mvOf C x).take j).filter fun v => !v.2).map (·.1))) ⟨L, _, _, _, _, _, rfl, Same.trans s4 s5, s5 _ _ hf4, s5 _ _ hrd4, hvs, hA, by rw [List.take_zero]; exact S.mid hx⟩ (fun j σ H6 _ x => ?_) ?_ ?_
              · obtain ⟨_, _, _, _, _, _, _, _, _, _, x, _⟩ := x
                exact SqL.of x
              · rintro j y σ H6 hy ⟨L, y6, y7, y8, y9, y10, rfl, s6, hf6, hrd6, hq6, hA6, M⟩
                have hj : j < (mvOf C x).length := by
                  have := (List.getElem?_eq_some_iff.mp hy).1
                  omega
                obtain ⟨y', f1, f2⟩ := hA6.get (i := j) (d := mvD (mvOf C x)[j]) (by rw [List.getElem?_map, List.getElem?_eq_getElem hj]; rfl)
                rw [hy] at f1
                cases f1
                have hmv : (mvOf C x)[j] ∈ mvOf C x := List.getElem_mem hj
                have etk2 : (mvOf C x).take (j + 1) = (mvOf C x).take j ++ [(mvOf C x)[j]] := by rw [List.take_add_one, List.getElem?_eq_getElem hj]; rfl
                rw [etk2, List.filter_append, List.map_append]
                generalize (mvOf C x)[j] = mv at f2 hmv
                obtain ⟨g, dd⟩ := mv
                simp only [mvD, At, AtL] at f2
                obtain ⟨Tt, zs, rfl, hT, _, _, rfl, rfl, _, _, rfl, rfl, rfl⟩ := f2
                refine ⟨Tt, _, rfl, SqT.of hT, rfl, _, _, rfl, _, _, rfl, rfl, ?_⟩
                cases dd with
                | true =>
                  refine ⟨_, rfl, _, rfl, iteF (iteF ⟨_, rfl, _, rfl, iteF (iteF ?_)⟩)⟩
                  refine ⟨L, _, _, _, _, _, rfl, s6, hf6, hrd6, hq6, hA6, ?_⟩
                  rw [List.filter_cons_of_neg (fun z => by cases z), List.filter_nil, List.map_nil, List.append_nil]
                  exact M
                | false =>
                  have hgq : g ∈ qOf C x := (q_mv vc.form x g).mpr hmv
                  have efl : ([(g, false)].filter fun v : Nat × Bool => !v.2).map (·.1) = [g] := rfl
                  rw [efl]
                  refine ⟨_, rfl, _, rfl, iteT ⟨_, rfl, _, rfl, rfl, _, rfl, ?_⟩⟩
                  by_cases cg : g = st
                  · rw [decide_eq_true (show V.int ((g : Nat) : Int) = V.int ((st : Nat) : Int) by rw [cg])]
                    refine iteT ⟨hf6, ?_⟩
                    refine k false ⟨fun z => (by cases z), fun sd => absurd ⟨st, hrch, ?_⟩ sd.2.2.2⟩ _ (same_off o1 s6)
                    have := M.to hgq
                    rwa [cg] at this
                  · rw [decide_eq_false (show ¬ V.int ((g : Nat) : Int) = V.int ((st : Nat) : Int) from fun z => cg (by injection z with z; omega))]
                    refine iteF ⟨_, rfl, _, rfl, iteT ⟨_, rfl, _, rfl, rd, _, rfl, .inl (SqL.of hrd6), rfl, ?_, _, rfl, ?_⟩⟩
                    · unfold natsV
                      rw [List.all_map, List.all_eq_true]
                      intro _ _
                      rfl
                    rw [show (if true = true then !inV (V.int ((g : Nat) : Int)) (natsV L) else inV (V.int ((g : Nat) : Int)) (natsV L)) = !decide (g ∈ L) by rw [if_pos rfl]; exact congrArg _ (inV_nat g L)]
                    by_cases cm : g ∈ L
                    · rw [decide_eq_true cm]
                      exact iteF ⟨L, _, _, _, _, _, rfl, s6, hf6, hrd6, hq6, hA6, M.old cm cg⟩
                    · rw [decide_eq_false cm]
                      have M2 := M.new hgq cm cg
                      have l60 := (rL _ M2.nd M2.r).2
                      rw [List.length_append, List.length_singleton] at l60
                      refine iteT ⟨_, rfl, .inl ⟨rfl, _, SqL.of hrd6⟩, _, rfl, rd, _, _, rfl, rfl, hrd6, ?_, ?_⟩
                      · unfold natsV
                        rw [List.length_map]
                        exact sz6' (by omega)
                      have enw : natsV L ++ [V.int (g : Nat)] = natsV (L ++ [g]) := by unfold natsV; rw [List.map_append]; rfl
                      rw [enw]
                      exact ⟨L ++ [g], _, _, _, _, _, rfl, same_off o3 s6, by rw [upd_ne (ne_of hf6 hrd6 (by intro z; cases z))]; exact hf6, upd_same, by rw [upd_ne qr]; exact hq6, AtL.kpT (kpT_lst hrd6) (tupO_mv _) hA6, M2⟩
              · rintro σ H6 ⟨L, y6, y7, y8, y9, y10, rfl, s6, hf6, hrd6, hq6, hA6, M⟩
                rw [lvs, List.take_of_length_le (Nat.le_refl _)] at M
                have S2 := M.done fun g hg => List.mem_map.mpr ⟨(g, false), List.mem_filter.mpr ⟨(q_mv vc.form x g).mp hg, rfl⟩, rfl⟩
                have hk2 := (List.getElem?_eq_some_iff.mp M.x).1
                exact ⟨_, rfl, _, _, rfl, rfl, m - 1, by omega, L, kq + 1, _, _, _, _, _, rfl, s6, hf6, hrd6, S2, by omega, by omega⟩
            · rw [decide_eq_false ck]
              refine iteF ⟨_, _, _, _, _, _, _, _, rfl, s4, hf4, fun p hp => ?_⟩
              rcases List.mem_append.mp hp with hp | hp
              · exact hno p hp
              · rw [List.mem_singleton.mp hp]
                exact S.none (by omega)
          · rintro σ H2 ⟨y6, y7, y8, y9, y10, y11, y12, y13, rfl, s2, hf2, hno⟩
            refine ⟨hf2, ?_⟩
            refine k true ⟨fun _ => ⟨hC0, hall, I.ok, ?_⟩, fun _ => rfl⟩ _ (same_off o1 s2)
            rintro ⟨a, ⟨h, r⟩, p⟩
            have hm := I.closed r
            refine hno (a, h) ?_ p
            rw [List.take_of_length_le (by unfold dkv; rw [List.length_map]; exact Nat.le_refl _)]
            exact hm
end
end OS

namespace OS
open PySem PySem.Spec PyProof.Rows L2
section
variable {P : Program} {w : World} {K : PySem.W.Frag} {mg : Str → Option Value} {base : Heap}
theorem fdiv_nn {a b : Int} (ha : 0 ≤ a) (hb : 0 < b) : 0 ≤ a.fdiv b := by
  rw [Int.fdiv_eq_ediv_of_nonneg _ (by omega)]
  exact Int.ediv_nonneg ha (by omega)
/-! ### _law_take -/
theorem ok_law_take {f : Addr} {fd : FuncData} (F : Fun K "_law_take" "_law_take" s__law_take f fd) (T : Txt K mg) : FnOk P w K mg base CX0 1 f fd ["tape", "many"] spTake := by
  refine F.ok sc__law_take (fun vs H Q E h => ?_) (fun cdv A outer s H vs Q E hr h => ?_)
  · obtain ⟨d, c, m, rfl, _⟩ := h
    rfl
  · obtain ⟨d, c, m, rfl, hT, hm, hm2, k⟩ := h
    have hu := hu_of hr
    refine ⟨_, (Evl.pss_cut (ps_if (PW.pt (pw_and (pt_cmpR op_eq (pe_dget hu (pv 0) pe_str (fun _ _ => rfl)) pe_int (nomark _)) (pw_and1 (pt_cmpR op_lt (pe_dget hu (pv 0) pe_str (fun _ _ => rfl)) (pe_callB call_len_seq (by rfl) T.len PySem.boot_len (pa_cons (pe_dget hu (pv 0) pe_str (fun _ _ => rfl)) pa_nil)) (nomark _))))) (pss_cons (ps_dput hu (pv 0) pe_str (pe_ix ix_list (pe_dget hu (pv 0) pe_str (fun _ _ => rfl)) (pe_dget hu (pv 0) pe_str (fun _ _ => rfl)) (fun _ _ => rfl)) rfl)
      (pss_one (ps_dput hu (pv 0) pe_str (pe_op op_add (pe_dget hu (pv 0) pe_str (fun _ _ => rfl)) pe_int) rfl))) pss_nil)
      (pss_cons (ps_if (pt_cmpR op_gt (pe_dget hu (pv 0) pe_str (fun _ _ => rfl)) pe_int (nomark _)) (pss_cons (ps_set (i := 2) sc__law_take.nd rfl (.inl rfl) (pe_op op_modN (pe_callTy call_int1 (by rfl) T.int (by decide +kernel) (pa_cons (pe_dget hu (pv 0) pe_str (fun _ _ => rfl)) pa_nil)) (pv 1)))
      (pss_cons (ps_dput hu (pv 0) pe_str (pe_op op_fdivN (pe_dget hu (pv 0) pe_str (fun _ _ => rfl)) (pv 1)) rfl)
      (pss_one (ps_ret (pv 2))))) pss_nil)
      (pss_cons (ps_dput hu (pv 0) pe_str (pe_op op_add (pe_dget hu (pv 0) pe_str (fun _ _ => rfl)) pe_int) rfl)
      (pss_cons (ps_set (i := 3) sc__law_take.nd rfl (.inl rfl) (pe_op op_modN (pe_callTy call_int1 (by rfl) T.int (by decide +kernel) (pa_cons (pe_op op_add (pe_op op_mul (pe_dget hu (pv 0) pe_str (fun _ _ => rfl)) pe_int) (pe_op op_mul (pe_dget hu (pv 0) pe_str (fun _ _ => rfl)) pe_int)) pa_nil)) pe_int))
      (pss_cons (ps_set (i := 3) sc__law_take.nd rfl (.inl rfl) (pe_op op_modN (pe_callTy call_int1 (by rfl) T.int (by decide +kernel) (pa_cons (pe_op op_add (pe_op op_add (pe_op op_mul (pv 3) (pv 3)) (pe_op op_mul (pe_dget hu (pv 0) pe_str (fun _ _ => rfl)) pe_int)) pe_int) pa_nil)) pe_int))
      (pss_one (ps_ret (pe_op op_modN (pe_callTy call_int1 (by rfl) T.int (by decide +kernel) (pa_cons (pv 3) pa_nil)) (pv 1))))))))), ?_⟩
    refine ⟨fun σ H1 => σ = [some (.ref d), some (.int m), none, none] ∧ Tape H1 d c ∧ Off d H H1, ?_, ?_⟩
    · obtain ⟨ns, i, l, se, sa, t⟩ := id hT
      refine ⟨_, rfl, d, _, rfl, t.gleft, rfl, _, rfl, ?_⟩
      refine ite2 (fun c1 => ?_) (fun c1 => ?_)
      · refine ⟨_, rfl, d, _, rfl, t.gat, _, rfl, d, _, rfl, t.gcells, c, _, rfl, .inl (SqL.of t.hc), _, _, rfl, rfl, _, rfl, ?_⟩
        rw [List.length_map]
        refine ite2 (fun c2 => ?_) (fun c2 => ?_)
        · have c2 : (i : Int) < (ns.length : Int) := of_decide_eq_true c2
          have hi : i < ns.length := by omega
          have g : (ns.map V.int)[i]? = some (.int ns[i]) := by
            rw [List.getElem?_map, List.getElem?_eq_getElem hi]
            rfl
          refine ⟨_, rfl, d, _, rfl, t.gcells, _, rfl, d, _, rfl, t.gat, c, _, _, _, rfl, rfl, SqL.of t.hc, atI_nat g, _, rfl, d, _, rfl, t.pleft _, ?_⟩
          have t1 := t.set (j := i) (l := ns[i]) (s := sa) t.hi (t.hn _ (List.getElem_mem hi)) t.ht
          refine ⟨_, rfl, d, _, rfl, t1.gat, _, _, rfl, rfl, _, rfl, d, _, rfl, t1.pat _, ?_⟩
          have t2 := t1.set (j := i + 1) (l := ns[i]) (s := sa) (by omega) t1.hl t.ht
          exact ⟨rfl, ⟨ns, i + 1, _, _, _, t2⟩, off_upd.trans off_upd⟩
        · exact ⟨rfl, hT, .refl⟩
      · exact iteF ⟨rfl, hT, .refl⟩
    · rintro σ H1 ⟨rfl, hT, hO⟩
      obtain ⟨ns, i, l, se, sa, t⟩ := id hT
      refine ⟨_, rfl, d, _, rfl, t.gleft, _, _, rfl, rfl, _, rfl, ?_⟩
      refine ite2 (fun c1 => ?_) (fun c1 => ?_)
      · have c1 : 0 < l := of_decide_eq_true c1
        refine ⟨_, rfl, d, _, rfl, t.gleft, .inl ⟨_, rfl, _, rfl, _, _, rfl, rfl, by omega, ?_⟩⟩
        refine ⟨_, rfl, d, _, rfl, t.gleft, _, rfl, _, _, rfl, rfl, ⟨by omega, by omega⟩, _, rfl, d, _, rfl, t.pleft _, ?_⟩
        have t1 := t.set (j := i) (l := l.fdiv m) (s := sa) t.hi (fdiv_nn t.hl hm) t.ht
        exact ⟨_, rfl, k _ _ (Int.fmod_nonneg_of_pos _ hm) (Int.fmod_lt_of_pos _ hm) ⟨ns, i, _, _, _, t1⟩ (hO.trans off_upd)⟩
      · refine ⟨_, rfl, d, _, rfl, t.gsalt, _, _, rfl, rfl, _, rfl, d, _, rfl, t.psalt _, ?_⟩
        have t1 := t.set (j := i) (l := l) (s := sa + 1) t.hi t.hl (by have := t.ht; omega)
        have hs := t.hs
        refine ⟨_, rfl, d, _, rfl, t1.gseed, _, _, rfl, rfl, .inl ⟨by omega, by omega⟩, ?_⟩
        refine ⟨_, rfl, d, _, rfl, t1.gsalt, _, _, rfl, rfl, .inr ⟨by decide, by decide⟩, _, _, rfl, rfl, .inl ⟨_, rfl, _, _, rfl, rfl, (by show (2147483647 : Int) ≠ 0; decide), ?_⟩⟩
        have b1 := Int.fmod_nonneg_of_pos (se * 48271 + (sa + 1) * 69621) (show (0 : Int) < 2147483647 by decide)
        have b2 := Int.fmod_lt_of_pos (se * 48271 + (sa + 1) * 69621) (show (0 : Int) < 2147483647 by decide)
        refine ⟨_, rfl, _, rfl, _, _, rfl, rfl, .inl ⟨by omega, by omega⟩, ?_⟩
        refine ⟨_, rfl, d, _, rfl, t1.gsalt, _, _, rfl, rfl, .inr ⟨by decide, by decide⟩, _, _, rfl, rfl, _, _, rfl, rfl, .inl ⟨_, rfl, _, _, rfl, rfl, (by show (2147483399 : Int) ≠ 0; decide), ?_⟩⟩
        refine ⟨_, rfl, .inl ⟨_, rfl, _, rfl, _, _, rfl, rfl, by omega, ?_⟩⟩
        exact k _ _ (Int.fmod_nonneg_of_pos _ hm) (Int.fmod_lt_of_pos _ hm) ⟨ns, i, _, _, _, t1⟩ (hO.trans off_upd)
/-! ### _law_tape -/
theorem ok_law_tape {f : Addr} {fd : FuncData} (F : Fun K "_law_tape" "_law_tape" s__law_tape f fd) (T : Txt K mg) : FnOk P w K mg base CX0 1 f fd ["script"] (spTape K) := by
  refine F.ok sc__law_tape (fun vs H Q E h => ?_) (fun cdv A outer s H vs Q E hr h => ?_)
  · obtain ⟨a, ns, rfl, _⟩ := h
    rfl
  · obtain ⟨a, ns, rfl, hS, h63, k⟩ := h
    have hu := hu_of hr
    have hgn : ∀ {i : Nat} {x : V}, (ns.map V.int)[i]? = some x → ∃ n, ns[i]? = some n ∧ x = .int n := fun {i x} hi => by
      rw [List.getElem?_map] at hi
      cases e : ns[i]? with
      | none => rw [e] at hi; cases hi
      | some n => rw [e] at hi; exact ⟨n, rfl, (Option.some.inj hi).symm⟩
    refine ⟨_, (pss_cons (ps_setLc (i := 2) (own := [("cell", 1)]) (g := gName 1) (by rfl) sc__law_tape.nd rfl rfl (sw_true rfl rfl rfl (by decide +kernel)) (pi_list (pv 0)) (blkOk_by (N := ["script", "cell", "cells", "seed"]) (sc := defScope s__law_tape) (by decide +kernel)) (fun _ _ _ _ _ => pg_name (i := 1) sc__law_tape.nd rfl (by first | exact Or.inl rfl | exact Or.inr rfl)) (fun _ _ _ _ _ => pts_nil) (fun _ _ _ _ _ => (pe_callB call_abs (by rfl) T.abs (by decide +kernel) (pa_cons (pe_callTy call_int1 (by rfl) T.int (by decide +kernel) (pa_cons (pv 1) pa_nil)) pa_nil))))
      (pss_cons (ps_set (i := 3) sc__law_tape.nd rfl (.inl rfl) pe_int)
      (pss_cons (ps_for PassesOwn.never rfl (pi_list (pv 2)) (pg_name (i := 1) sc__law_tape.nd rfl (.inl rfl)) (pss_one (ps_set (i := 3) sc__law_tape.nd rfl (.inl rfl) (pe_op op_modN (pe_callTy call_int1 (by rfl) T.int (by decide +kernel) (pa_cons (pe_op op_add (pe_op op_mul (pv 3) pe_int) (pv 1)) pa_nil)) pe_int))))
      (pss_one (ps_ret (pe_disp (pps_cons pe_str (pv 2) (pps_cons pe_str pe_int (pps_cons pe_str pe_int (pps_cons pe_str (pv 3) (pps_cons pe_str pe_int pps_nil))))) (by rfl) (by rfl) (fun z => by cases z) (by decide))))))), ?_⟩
    refine ⟨_, rfl, a, rfl, ⟨_, hS⟩, fun D nD => ?_⟩
    refine lc_list (K := K) (a := a) (xs := ns.map V.int) (fun i H1 => Same H H1 ∧ ∃ ms : List Int, H1 D = some (.lst (ms.map V.int)) ∧ ms.length = i ∧ ∀ n ∈ ms, 0 ≤ n)
      ⟨same_upd nD, [], upd_same, rfl, fun n h => by cases h⟩ (fun i H1 _ h => h.1.seq hS) ?_ ?_
    · rintro i x H1 hi ⟨sm, ms, hD, hl, hn⟩
      obtain ⟨n, en, rfl⟩ := hgn hi
      have hi2 : i < ns.length := (List.getElem?_eq_some_iff.mp en).1
      refine ⟨rfl, iteT (B := True) ?_⟩
      refine ⟨_, rfl, .inl ⟨_, rfl, _, rfl, _, hD, ?_, ?_⟩⟩
      · rw [List.length_map]
        exact sz6' (by omega)
      · refine ⟨fun b o e => ?_, ms ++ [if n < 0 then -n else n], ?_, ?_, ?_⟩
        · rw [upd_ne (ne_of_none e nD)]
          exact sm _ _ e
        · rw [upd_same, List.map_append]
          rfl
        · rw [List.length_append, hl]
          rfl
        · intro y hy
          rcases List.mem_append.mp hy with hy | hy
          · exact hn y hy
          · rw [List.mem_singleton.mp hy]
            split <;> omega
    · rintro H1 ⟨sm, ms, hD, hl, hn⟩
      rw [List.length_map] at hl
      refine ⟨_, rfl, D, rfl, ⟨_, SqL.of hD⟩, for_list (K := K) (a := D) (xs := ms.map V.int) (fun i σ H2 => ∃ (y : Option V) (sd : Int), σ = [some (.ref a), y, some (.ref D), some (.int sd)] ∧ 0 ≤ sd ∧ sd < 2 ^ 62 ∧ H2 = H1)
        ⟨_, 7, rfl, by decide, by decide, rfl⟩ (fun i σ H2 _ ⟨_, _, _, _, _, e⟩ => by rw [e]; exact SqL.of hD) ?_ ?_⟩
      · rintro i x σ H2 hi ⟨y, sd, rfl, h0, h1, rfl⟩
        obtain ⟨n, en, rfl⟩ : ∃ n, ms[i]? = some n ∧ x = .int n := by
          rw [List.getElem?_map] at hi
          cases e : ms[i]? with
          | none => rw [e] at hi; cases hi
          | some n => rw [e] at hi; exact ⟨n, rfl, (Option.some.inj hi).symm⟩
        refine ⟨_, rfl, _, _, rfl, rfl, .inl ⟨by omega, by omega⟩, _, rfl, _, _, rfl, rfl, .inl ⟨_, rfl, _, _, rfl, rfl, (by show (2147483647 : Int) ≠ 0; decide), ?_⟩⟩
        have b1 := Int.fmod_nonneg_of_pos (sd * 31 + n) (show (0 : Int) < 2147483647 by decide)
        have b2 := Int.fmod_lt_of_pos (sd * 31 + n) (show (0 : Int) < 2147483647 by decide)
        exact ⟨_, _, rfl, b1, by omega, rfl⟩
      · rintro σ H2 ⟨y, sd, rfl, h0, h1, rfl⟩
        intro d hd
        refine ⟨_, rfl, _, rfl, upd_same, tapeD D 0 0 sd 0, rfl, (by show 5 ≤ 15; decide), ?_⟩
        have hDd : D ≠ d := ne_of_none hD hd
        have t : TapeIs (upd (upd H2 d (.dK [])) d (.dK (mergeK [] (tapeD D 0 0 sd 0)))) d D ms 0 0 sd 0 := by
          refine ⟨?_, ?_, Nat.zero_le _, hn, by decide, ⟨h0, h1⟩, by decide⟩
          · rw [upd_same, merge_tape]
            rfl
          · rw [upd_ne hDd, upd_ne hDd]
            exact hD
        refine k d D _ (fun b o e => ?_) (sm.free hd) nD ⟨ms, 0, 0, sd, 0, t⟩
        rw [upd_ne (ne_of_none (sm _ _ e) hd), upd_ne (ne_of_none (sm _ _ e) hd)]
        exact sm _ _ e
end
section
variable {P : Program} {w : World} {K : PySem.W.Frag} {mg : Str → Option Value} {base : Heap}
/-! ### _law_is_integer, _law_same_items, _law_same: equal data are the same -/
def spIsInt : Sp := fun vs H Q _ => ∃ i : Int, vs = [.int i] ∧ Q (.bl true) H
def spSame (K : PySem.W.Frag) (n : Nat) : Sp := fun vs H Q _ => ∃ (v u : V) (d : Dt), vs = [v, u] ∧ At K H d v ∧ At K H d u ∧ dep d < n ∧ narrow d ∧ Q (.bl true) H
/-- a row of data, in a list or a tuple -/
def RowAt (K : PySem.W.Frag) (H : Hp) (a : Addr) (vs : List V) : Prop := H a = some (.lst vs) ∨ H a = some (.tup vs)
theorem RowAt.seq {H : Hp} {a : Addr} {vs : List V} (h : RowAt K H a vs) : SqL K H a vs ∨ SqT K H a vs := by
  rcases h with h | h
  · exact .inl (SqL.of h)
  · exact .inr (SqT.of h)
def spItems (K : PySem.W.Frag) (n : Nat) : Sp := fun vs H Q _ => ∃ (p q : Addr) (xs ys : List V) (ds : List Dt), vs = [.ref p, .ref q] ∧ RowAt K H p xs ∧ RowAt K H q ys ∧ AtL K H ds xs ∧ AtL K H ds ys ∧
  (∀ d ∈ ds, dep d < n ∧ narrow d) ∧ ds.length ≤ 100000 ∧ Q (.bl true) H
theorem ok_law_is_integer {f : Addr} {fd : FuncData} (F : Fun K "_law_is_integer" "_law_is_integer" s__law_is_integer f fd) (T : Txt K mg) : FnOk P w K mg base CX0 1 f fd ["actual"] spIsInt := by
  refine F.ok sc__law_is_integer (fun vs H Q E h => ?_) (fun cdv A outer s H vs Q E hr h => ?_)
  · obtain ⟨i, rfl, _⟩ := h
    rfl
  · obtain ⟨i, rfl, k⟩ := h
    refine ⟨_, (pss_one (ps_ret (pe_and (pe_callB call_isi (by rfl) T.isinstance (by decide +kernel) (pa_cons (pv 0) (pa_cons (pe_bltn (v := .ty "int") (u := Value.type "int") (by rfl) T.int (by decide +kernel) rfl) pa_nil))) (pe_one (pe_not (pe_callB call_isi (by rfl) T.isinstance (by decide +kernel) (pa_cons (pv 0) (pa_cons (pe_bltn (v := .ty "bool") (u := Value.type "bool") (by rfl) T.bool (by decide +kernel) rfl) pa_nil)))))))), ?_⟩
    refine ⟨_, rfl, _, _, .type "int", .type "int", true, rfl, .ty _, .base (.int i), kit_ty (by decide +kernel), true, rfl, iteT ?_⟩
    exact ⟨_, rfl, _, _, .type "int", .type "bool", false, rfl, .ty _, .base (.int i), kit_ty (by decide +kernel), false, rfl, k⟩
theorem ok_law_same_items {f : Addr} {fd : FuncData} (F : Fun K "_law_same_items" "_law_same_items" s__law_same_items f fd) (T : Txt K mg) (n : Nat) {f__law_same : Addr} {d__law_same : FuncData} (c__law_same : Cal P w K mg base (2*n) "_law_same" ["actual", "expected"] (spSame K n) f__law_same d__law_same) : FnOk P w K mg base CX0 (2*n+1) f fd ["actual", "expected"] (spItems K n) := by
  refine F.ok sc__law_same_items (fun vs H Q E h => ?_) (fun cdv A outer s H vs Q E hr h => ?_)
  · obtain ⟨p, q, xs, ys, ds, rfl, _⟩ := h
    rfl
  · obtain ⟨p, q, xs, ys, ds, rfl, hp, hq, hx, hy, hd, hl, k⟩ := h
    have lx := hx.length
    have ly := hy.length
    refine ⟨_, (pss_cons (ps_if (pt_cmpR op_ne (pe_callB call_len_seq (by rfl) T.len PySem.boot_len (pa_cons (pv 0) pa_nil)) (pe_callB call_len_seq (by rfl) T.len PySem.boot_len (pa_cons (pv 1) pa_nil)) (nomark _)) (pss_one (ps_ret pe_bl)) pss_nil)
      (pss_cons (ps_for PassesOwn.never rfl (pi_range1 (by rfl) T.range (pa_cons (pe_callB call_len_seq (by rfl) T.len PySem.boot_len (pa_cons (pv 1) pa_nil)) pa_nil)) (pg_name (i := 2) sc__law_same_items.nd rfl (.inl rfl)) (pss_one (ps_if (pt_not (pt_val (pe_call c__law_same.G (hr.mono (by omega)) (by rfl) c__law_same.m c__law_same.k c__law_same.b .nil pass0 (pa_cons (pe_ix ix_seq (pv 0) (pv 2) (fun _ _ => rfl)) (pa_cons (pe_ix ix_seq (pv 1) (pv 2) (fun _ _ => rfl)) pa_nil))))) (pss_one (ps_ret pe_bl)) pss_nil)))
      (pss_one (ps_ret pe_bl)))), ?_⟩
    refine ⟨_, rfl, p, _, rfl, hp.seq, _, rfl, q, _, rfl, hq.seq, rfl, _, rfl, ?_⟩
    rw [lx, ly, decide_eq_true rfl]
    refine iteF ?_
    refine ⟨_, rfl, q, _, rfl, hq.seq, (ds.length : Int), by rw [ly], by omega, by omega, ?_⟩
    refine for_range (n := (ds.length : Int).toNat) (fun i σ H' => H' = H ∧ ∃ y, σ = [some (.ref p), some (.ref q), y]) ⟨rfl, none, rfl⟩ ?_ ?_
    · rintro i σ H' hi ⟨rfl, y, rfl⟩
      have hi : i < ds.length := by omega
      obtain ⟨v, ev, hv⟩ := hx.get (List.getElem?_eq_getElem hi)
      obtain ⟨u, eu, hu⟩ := hy.get (List.getElem?_eq_getElem hi)
      have hm := hd ds[i] (List.getElem_mem hi)
      have e0 : (0 : Int) + (i : Int) = ((i : Nat) : Int) := Int.zero_add _
      have ix : ∀ {a : Addr} {zs : List V} {x : V}, RowAt K H' a zs → zs[i]? = some x → ∀ R : VK, R x H' → rIx K (.ref a) (.int (0 + (i : Int))) H' R := fun {a zs x} h e R r => by
        rw [e0]
        rcases h with h | h
        · exact .inl ⟨a, _, _, _, rfl, rfl, SqL.of h, atI_nat e, r⟩
        · exact .inr (.inl ⟨a, _, _, _, rfl, rfl, SqT.of h, atI_nat e, r⟩)
      refine ⟨_, rfl, _, rfl, ix hp ev _ ?_⟩
      refine ⟨_, rfl, _, rfl, ix hq eu _ ?_⟩
      exact ⟨v, u, ds[i], rfl, hv, hu, hm.1, hm.2, true, rfl, iteF ⟨rfl, _, rfl⟩⟩
    · rintro σ H' ⟨rfl, y, rfl⟩
      exact k
theorem ok_law_same {f : Addr} {fd : FuncData} (F : Fun K "_law_same" "_law_same" s__law_same f fd) (T : Txt K mg) (n : Nat) {f__law_is_integer : Addr} {d__law_is_integer : FuncData} (c__law_is_integer : Cal P w K mg base 1 "_law_is_integer" ["actual"] spIsInt f__law_is_integer d__law_is_integer) {f__law_same_items : Addr} {d__law_same_items : FuncData} (c__law_same_items : Cal P w K mg base (2*n+1) "_law_same_items" ["actual", "expected"] (spItems K n) f__law_same_items d__law_same_items) : FnOk P w K mg base CX0 (2*n+2) f fd ["actual", "expected"] (spSame K (n+1)) := by
  refine F.ok sc__law_same (fun vs H Q E h => ?_) (fun cdv A outer s H vs Q E hr h => ?_)
  · obtain ⟨v, u, d, rfl, _⟩ := h
    rfl
  · obtain ⟨v, u, d, rfl, hv, hu, hd, hn, k⟩ := h
    refine ⟨_, (pss_cons (ps_if (pt_cmpR op_isN (pv 1) pe_non (nomark _)) (pss_one (ps_ret (pe_cmpR op_isN (pv 0) pe_non (nomark _)))) pss_nil)
      (pss_cons (ps_if (pt_val (pe_callB call_isi (by rfl) T.isinstance (by decide +kernel) (pa_cons (pv 1) (pa_cons (pe_bltn (v := .ty "bool") (u := Value.type "bool") (by rfl) T.bool (by decide +kernel) rfl) pa_nil)))) (pss_one (ps_ret (pe_and (pe_callB call_isi (by rfl) T.isinstance (by decide +kernel) (pa_cons (pv 0) (pa_cons (pe_bltn (v := .ty "bool") (u := Value.type "bool") (by rfl) T.bool (by decide +kernel) rfl) pa_nil))) (pe_one (pe_cmpR op_eq (pv 0) (pv 1) (nomark _)))))) pss_nil)
      (pss_cons (ps_if (pt_val (pe_callB call_isi (by rfl) T.isinstance (by decide +kernel) (pa_cons (pv 1) (pa_cons (pe_bltn (v := .ty "int") (u := Value.type "int") (by rfl) T.int (by decide +kernel) rfl) pa_nil)))) (pss_one (ps_ret (pe_and (pe_call c__law_is_integer.G (hr.mono (by omega)) (by rfl) c__law_is_integer.m c__law_is_integer.k c__law_is_integer.b .nil pass0 (pa_cons (pv 0) pa_nil)) (pe_one (pe_cmpR op_eq (pv 0) (pv 1) (nomark _)))))) pss_nil)
      (pss_cons (ps_if (pt_val (pe_callB call_isi (by rfl) T.isinstance (by decide +kernel) (pa_cons (pv 1) (pa_cons (pe_bltn (v := .ty "str") (u := Value.type "str") (by rfl) T.str (by decide +kernel) rfl) pa_nil)))) (pss_one (ps_ret (pe_and (pe_callB call_isi (by rfl) T.isinstance (by decide +kernel) (pa_cons (pv 0) (pa_cons (pe_bltn (v := .ty "str") (u := Value.type "str") (by rfl) T.str (by decide +kernel) rfl) pa_nil))) (pe_one (pe_cmpR op_eq (pv 0) (pv 1) (nomark _)))))) pss_nil)
      (pss_cons (ps_if (pt_val (pe_callB call_isi (by rfl) T.isinstance (by decide +kernel) (pa_cons (pv 1) (pa_cons (pe_bltn (v := .ty "tuple") (u := Value.type "tuple") (by rfl) T.tuple (by decide +kernel) rfl) pa_nil)))) (pss_one (ps_ret (pe_and (pe_callB call_isi (by rfl) T.isinstance (by decide +kernel) (pa_cons (pv 0) (pa_cons (pe_bltn (v := .ty "tuple") (u := Value.type "tuple") (by rfl) T.tuple (by decide +kernel) rfl) pa_nil))) (pe_one (pe_call c__law_same_items.G (hr.mono (by omega)) (by rfl) c__law_same_items.m c__law_same_items.k c__law_same_items.b .nil pass0 (pa_cons (pv 0) (pa_cons (pv 1) pa_nil))))))) pss_nil)
      (pss_cons (ps_if (pt_val (pe_callB call_isi (by rfl) T.isinstance (by decide +kernel) (pa_cons (pv 1) (pa_cons (pe_bltn (v := .ty "list") (u := Value.type "list") (by rfl) T.list (by decide +kernel) rfl) pa_nil)))) (pss_one (ps_ret (pe_and (pe_callB call_isi (by rfl) T.isinstance (by decide +kernel) (pa_cons (pv 0) (pa_cons (pe_bltn (v := .ty "list") (u := Value.type "list") (by rfl) T.list (by decide +kernel) rfl) pa_nil))) (pe_one (pe_call c__law_same_items.G (hr.mono (by omega)) (by rfl) c__law_same_items.m c__law_same_items.k c__law_same_items.b .nil pass0 (pa_cons (pv 0) (pa_cons (pv 1) pa_nil))))))) pss_nil)
      pss_never)))))), ?_⟩
    cases d with
    | non =>
      unfold At at hv hu
      subst hv hu
      exact ⟨_, rfl, rfl, _, rfl, iteT ⟨_, rfl, rfl, k⟩⟩
    | bl b =>
      unfold At at hv hu
      subst hv hu
      refine ⟨_, rfl, rfl, _, rfl, iteF ?_⟩
      refine ⟨_, rfl, _, _, .type "bool", .type "bool", true, rfl, .ty _, .base (.bl b), kit_ty (by decide +kernel), true, rfl, iteT ?_⟩
      refine ⟨_, rfl, _, _, .type "bool", .type "bool", true, rfl, .ty _, .base (.bl b), kit_ty (by decide +kernel), true, rfl, iteT ?_⟩
      refine ⟨_, rfl, _, rfl, rfl, ?_⟩
      rw [decide_eq_true rfl]
      exact k
    | int i =>
      unfold At at hv hu
      subst hv hu
      refine ⟨_, rfl, rfl, _, rfl, iteF ?_⟩
      refine ⟨_, rfl, _, _, .type "int", .type "bool", false, rfl, .ty _, .base (.int i), kit_ty (by decide +kernel), false, rfl, iteF ?_⟩
      refine ⟨_, rfl, _, _, .type "int", .type "int", true, rfl, .ty _, .base (.int i), kit_ty (by decide +kernel), true, rfl, iteT ?_⟩
      refine ⟨_, rfl, i, rfl, true, rfl, iteT ?_⟩
      refine ⟨_, rfl, _, rfl, rfl, ?_⟩
      rw [decide_eq_true rfl]
      exact k
    | str x =>
      unfold At at hv hu
      subst hv hu
      refine ⟨_, rfl, rfl, _, rfl, iteF ?_⟩
      refine ⟨_, rfl, _, _, .type "str", .type "bool", false, rfl, .ty _, .base (.str x), kit_ty (by decide +kernel), false, rfl, iteF ?_⟩
      refine ⟨_, rfl, _, _, .type "str", .type "int", false, rfl, .ty _, .base (.str x), kit_ty (by decide +kernel), false, rfl, iteF ?_⟩
      refine ⟨_, rfl, _, _, .type "str", .type "str", true, rfl, .ty _, .base (.str x), kit_ty (by decide +kernel), true, rfl, iteT ?_⟩
      refine ⟨_, rfl, _, _, .type "str", .type "str", true, rfl, .ty _, .base (.str x), kit_ty (by decide +kernel), true, rfl, iteT ?_⟩
      refine ⟨_, rfl, _, rfl, rfl, ?_⟩
      rw [decide_eq_true rfl]
      exact k
    | tup xs =>
      unfold At at hv hu
      obtain ⟨p, vs, rfl, hp, hx⟩ := hv
      obtain ⟨q, ys, rfl, hq, hy⟩ := hu
      unfold dep at hd
      unfold narrow at hn
      refine ⟨_, rfl, rfl, _, rfl, iteF ?_⟩
      refine ⟨_, rfl, _, _, .type "tuple", .type "bool", false, rfl, .ty _, .base (.tup hq), kit_ty (by decide +kernel), false, rfl, iteF ?_⟩
      refine ⟨_, rfl, _, _, .type "tuple", .type "int", false, rfl, .ty _, .base (.tup hq), kit_ty (by decide +kernel), false, rfl, iteF ?_⟩
      refine ⟨_, rfl, _, _, .type "tuple", .type "str", false, rfl, .ty _, .base (.tup hq), kit_ty (by decide +kernel), false, rfl, iteF ?_⟩
      refine ⟨_, rfl, _, _, .type "tuple", .type "tuple", true, rfl, .ty _, .base (.tup hq), kit_ty (by decide +kernel), true, rfl, iteT ?_⟩
      refine ⟨_, rfl, _, _, .type "tuple", .type "tuple", true, rfl, .ty _, .base (.tup hp), kit_ty (by decide +kernel), true, rfl, iteT ?_⟩
      exact ⟨_, rfl, _, rfl, p, q, vs, ys, xs, rfl, .inr hp, .inr hq, hx, hy, deep_of hd hn.2, hn.1, k⟩
    | lst xs =>
      unfold At at hv hu
      obtain ⟨p, vs, rfl, hp, hx⟩ := hv
      obtain ⟨q, ys, rfl, hq, hy⟩ := hu
      unfold dep at hd
      unfold narrow at hn
      refine ⟨_, rfl, rfl, _, rfl, iteF ?_⟩
      refine ⟨_, rfl, _, _, .type "list", .type "bool", false, rfl, .ty _, .base (.lst hq), kit_ty (by decide +kernel), false, rfl, iteF ?_⟩
      refine ⟨_, rfl, _, _, .type "list", .type "int", false, rfl, .ty _, .base (.lst hq), kit_ty (by decide +kernel), false, rfl, iteF ?_⟩
      refine ⟨_, rfl, _, _, .type "list", .type "str", false, rfl, .ty _, .base (.lst hq), kit_ty (by decide +kernel), false, rfl, iteF ?_⟩
      refine ⟨_, rfl, _, _, .type "list", .type "tuple", false, rfl, .ty _, .base (.lst hq), kit_ty (by decide +kernel), false, rfl, iteF ?_⟩
      refine ⟨_, rfl, _, _, .type "list", .type "list", true, rfl, .ty _, .base (.lst hq), kit_ty (by decide +kernel), true, rfl, iteT ?_⟩
      refine ⟨_, rfl, _, _, .type "list", .type "list", true, rfl, .ty _, .base (.lst hp), kit_ty (by decide +kernel), true, rfl, iteT ?_⟩
      exact ⟨_, rfl, _, rfl, p, q, vs, ys, xs, rfl, .inl hp, .inl hq, hx, hy, deep_of hd hn.2, hn.1, k⟩
/-- nothing can be asked at depth 0 -/
theorem same_none {f : Addr} {fd : FuncData} {ps : List Str} : FnOk P w K mg base CX0 (2*0) f fd ps (spSame K 0) := by
  have no : ∀ vs H Q E, ¬ spSame K 0 vs H Q E := fun vs H Q E h => by
    obtain ⟨v, u, d, _, _, _, h, _⟩ := h
    omega
  exact ⟨fun vs H Q E h => absurd h (no vs H Q E), fun A outer s H args us vs Q E _ _ _ _ h => absurd h (no vs H Q E)⟩
theorem same_all {f1 f2 f3 : Addr} {d1 d2 d3 : FuncData} (T : Txt K mg) (F1 : Fun K "_law_is_integer" "_law_is_integer" s__law_is_integer f1 d1) (b1 : Binds K d1 ["actual"] []) (m1 : mg "_law_is_integer" = some (.ref f1))
    (F2 : Fun K "_law_same_items" "_law_same_items" s__law_same_items f2 d2) (b2 : Binds K d2 ["actual", "expected"] []) (m2 : mg "_law_same_items" = some (.ref f2))
    (F3 : Fun K "_law_same" "_law_same" s__law_same f3 d3) (b3 : Binds K d3 ["actual", "expected"] []) (m3 : mg "_law_same" = some (.ref f3)) :
    ∀ n : Nat, FnOk P w K mg base CX0 (2*n) f3 d3 ["actual", "expected"] (spSame K n)
  | 0 => same_none
  | n + 1 => by
    have ih := same_all T F1 b1 m1 F2 b2 m2 F3 b3 m3 n
    exact ok_law_same F3 T n ⟨ok_law_is_integer F1 T, b1, F1.kp, m1⟩ ⟨ok_law_same_items F2 T n ⟨ih, b3, F3.kp, m3⟩, b2, F2.kp, m2⟩
end
theorem pick_of {xs : List V} {r : Int} (h0 : 0 ≤ r) (h1 : r < (xs.length : Int)) : ∃ x ∈ xs, atI xs r = some x := by
  obtain ⟨i, rfl⟩ := Int.eq_ofNat_of_zero_le h0
  have hi : i < xs.length := by omega
  exact ⟨xs[i], List.getElem_mem hi, atI_nat (List.getElem?_eq_getElem hi)⟩
/-- tuples and lists stand as they were -/
def Rws (H H' : Hp) : Prop := (∀ b xs, H b = some (.tup xs) → H' b = some (.tup xs)) ∧ ∀ b xs, H b = some (.lst xs) → H' b = some (.lst xs)
mutual
theorem At.rws {K : PySem.W.Frag} {H H' : Hp} (s : Rws H H') : ∀ {d : Dt} {v : V}, At K H d v → At K H' d v
  | .non, v, h => by unfold At at h ⊢; exact h
  | .bl b, v, h => by unfold At at h ⊢; exact h
  | .int i, v, h => by unfold At at h ⊢; exact h
  | .str x, v, h => by unfold At at h ⊢; exact h
  | .tup xs, v, h => by
    unfold At at h ⊢
    obtain ⟨p, vs, e, hp, hl⟩ := h
    exact ⟨p, vs, e, s.1 _ _ hp, AtL.rws s hl⟩
  | .lst xs, v, h => by
    unfold At at h ⊢
    obtain ⟨p, vs, e, hp, hl⟩ := h
    exact ⟨p, vs, e, s.2 _ _ hp, AtL.rws s hl⟩
theorem AtL.rws {K : PySem.W.Frag} {H H' : Hp} (s : Rws H H') : ∀ {ds : List Dt} {vs : List V}, AtL K H ds vs → AtL K H' ds vs
  | [], vs, h => by unfold AtL at h ⊢; exact h
  | d :: ds, vs, h => by
    unfold AtL at h ⊢
    obtain ⟨v, r, e, hd, hl⟩ := h
    exact ⟨v, r, e, At.rws s hd, AtL.rws s hl⟩
end
theorem Rws.trans {H H1 H2 : Hp} (a : Rws H H1) (b : Rws H1 H2) : Rws H H2 := ⟨fun x xs h => b.1 _ _ (a.1 _ _ h), fun x xs h => b.2 _ _ (a.2 _ _ h)⟩
theorem Same.rws {H H' : Hp} (s : Same H H') : Rws H H' := ⟨fun x xs h => s _ _ h, fun x xs h => s _ _ h⟩
theorem Tape.rws {H H' : Hp} {d c : Addr} (hT : Tape H d c) (q : Kept d H H') : Rws H H' := by
  obtain ⟨ns, i, l, se, sa, t⟩ := hT
  exact ⟨fun b xs h => q b _ (ne_of h t.hd (by intro z; cases z)) h, fun b xs h => q b _ (ne_of h t.hd (by intro z; cases z)) h⟩
end OS

namespace OS
open PySem PySem.Spec PyProof.Rows L2
/-- data gathered while drawing, lists that stand -/
structure Acc (K : PySem.W.Frag) (d c : Addr) (H0 H : Hp) (ds : List Dt) (vs : List V) (ms : List (Addr × List V)) : Prop where
  A : AtL K H ds vs
  T : Tape H d c
  k : Kept d H0 H
  L : ∀ m ∈ ms, H m.1 = some (.lst m.2)
section
variable {K : PySem.W.Frag} {d c p : Addr} {H0 H H' : Hp} {ds es : List Dt} {vs us xs : List V} {ms : List (Addr × List V)} {o : HO}
theorem Acc.put (a : Acc K d c H0 H ds vs ms) (hp : H p = none) : Acc K d c H0 (upd H p o) ds vs ms :=
  ⟨AtL.keep (same_upd hp) a.A, a.T.keep (same_upd hp), a.k.trans (Kept.of (same_upd hp)), fun m hm => same_upd hp _ _ (a.L m hm)⟩
theorem Acc.tup (a : Acc K d c H0 H ds vs ms) (hp : H p = none) (h : AtL K H es us) : Acc K d c H0 (upd H p (.tup us)) (ds ++ [.tup es]) (vs ++ [.ref p]) ms := by
  have b := a.put (o := .tup us) hp
  refine ⟨AtL.snoc ?_ b.A, b.T, b.k, b.L⟩
  unfold At
  exact ⟨p, us, rfl, upd_same, AtL.keep (same_upd hp) h⟩
theorem Acc.lst (a : Acc K d c H0 H ds vs ms) (hp : H p = none) : Acc K d c H0 (upd H p (.lst xs)) ds vs ((p, xs) :: ms) := by
  have b := a.put (o := .lst xs) hp
  refine ⟨b.A, b.T, b.k, fun m hm => ?_⟩
  rcases List.mem_cons.mp hm with rfl | hm
  · exact upd_same
  · exact b.L m hm
theorem Acc.take (a : Acc K d c H0 H ds vs ms) (T' : Tape H' d c) (o : Off d H H') : Acc K d c H0 H' ds vs ms :=
  ⟨AtL.rws (a.T.rws o.kept) a.A, T', a.k.trans o.kept, fun m hm => (a.T.rws o.kept).2 _ _ (a.L m hm)⟩
theorem Acc.hd {dd : Dt} {v : V} (a : Acc K d c H0 H (dd :: ds) (v :: vs) ms) : At K H dd v := by
  have h := a.A
  unfold AtL at h
  obtain ⟨u, r, e, h1, _⟩ := h
  cases e
  exact h1
end
theorem str_of {x : V} {l : List Str} (h : x ∈ l.map V.str) : ∃ s ∈ l, x = .str s := by
  obtain ⟨s, h1, h2⟩ := List.mem_map.mp h
  exact ⟨s, h1, h2.symm⟩
def bothL (g q : Int) : List (Str × Str × Int) := [("go", "n", g), ("no", "n", q)]
def chsL (g q : Int) : List (List (Str × Str × Int)) := [bothL g q, [("go", "n", g)], bothL g q, [("no", "n", q), ("go", "n", g)], [], [("go", "n", g), ("no", "n", q), ("no", "n", q)]]
def nm24 : List Str := ["n", "m"]
def nu24 : List Int := [0, 5, 4294967295, 4294967296, -1]
def en24 : List Str := ["a", "b", "zz"]
def wo24 : List Str := ["yes", "no", "maybe"]
def menu24 (g : Int) (nm : Str) (nu : Int) (en : Str) (cs : List (Str × Str × Int)) (wo : Str) : List I24 :=
 [⟨"push", [.n nu]⟩, ⟨"load", [.s nm]⟩, ⟨"store", [.s nm]⟩, ⟨"add", []⟩, ⟨"less", []⟩, ⟨"jump", [.n g]⟩, ⟨"zero", [.n g]⟩,
  ⟨"emit", [.s en, .s "go"]⟩, ⟨"wait", [.s en, .c cs]⟩, ⟨"input", [.s nm]⟩, ⟨"round", [.n 3, .n g]⟩, ⟨"yes", [.n 3]⟩, ⟨"no", [.n 3]⟩,
  ⟨"test", [.s wo]⟩, ⟨"stop", []⟩, ⟨"push", [.n 1]⟩, ⟨"store", [.s nm]⟩, ⟨"stop", []⟩, ⟨"fly", []⟩, ⟨"push", []⟩]
theorem wf_menu {g q nu : Int} {nm en wo : Str} {cs : List (Str × Str × Int)} (h1 : nm ∈ nm24) (h2 : en ∈ en24) (h3 : cs ∈ chsL g q) (h4 : wo ∈ wo24) {a : I24} (ha : a ∈ menu24 g nm nu en cs wo) : Wf a := by
  have all : (nm24.all fun nm => en24.all fun en => (chsL g q).all fun cs => wo24.all fun wo => (menu24 g nm nu en cs wo).all wfB) = true := by kernel_rfl
  exact wf_of (List.all_eq_true.mp (List.all_eq_true.mp (List.all_eq_true.mp (List.all_eq_true.mp (List.all_eq_true.mp all nm h1) en h2) cs h3) wo h4) a ha)
theorem fdiv_lt {r b n : Int} (h0 : 0 ≤ r) (hb : 0 < b) (h : r < n * b) : r.fdiv b < n := by
  rw [Int.fdiv_eq_ediv_of_nonneg _ (by omega)]
  exact Int.ediv_lt_of_lt_mul hb h
theorem intI_of {x : V} {l : List Int} (h : x ∈ l.map V.int) : ∃ s ∈ l, x = .int s := by
  obtain ⟨s, h1, h2⟩ := List.mem_map.mp h
  exact ⟨s, h1, h2.symm⟩
section
variable {P : Program} {w : World} {K : PySem.W.Frag} {mg : Str → Option Value} {base : Heap}
def spIn (K : PySem.W.Frag) : Sp := fun vs H Q _ => ∃ (d c : Addr) (m : Int), vs = [.ref d, .int m] ∧ Tape H d c ∧ 1 ≤ m ∧ m ≤ 1000 ∧ ∀ (v : V) (a : I24) H', Wf a → At K H' a.dt v → Tape H' d c → Kept d H H' → Q v H'
set_option maxHeartbeats 8000000 in
theorem ok_law_instruction {f : Addr} {fd : FuncData} (F : Fun K "_law_instruction" "_law_instruction" s__law_instruction f fd) (T : Txt K mg) {f__law_take : Addr} {d__law_take : FuncData} (c__law_take : Cal P w K mg base 1 "_law_take" ["tape", "many"] spTake f__law_take d__law_take) : FnOk P w K mg base CX0 2 f fd ["tape", "many"] (spIn K) := by
  refine F.ok sc__law_instruction (fun vs H Q E h => ?_) (fun cdv A outer s H vs Q E hr h => ?_)
  · obtain ⟨d, c, m, rfl, _⟩ := h
    rfl
  · obtain ⟨d, c, m, rfl, hT, hm1, hm2, k⟩ := h
    refine ⟨_, (Evl.pss_cut (ps_set (i := 2) sc__law_instruction.nd rfl (.inl rfl) (pe_op op_sub (pe_call c__law_take.G (hr.mono (by decide)) (by rfl) c__law_take.m c__law_take.k c__law_take.b .nil pass0 (pa_cons (pv 0) (pa_cons (pe_op op_add (pv 1) pe_int) pa_nil))) (pe_ifExp (pt_cmpR op_eq (pe_call c__law_take.G (hr.mono (by decide)) (by rfl) c__law_take.m c__law_take.k c__law_take.b .nil pass0 (pa_cons (pv 0) (pa_cons pe_int pa_nil))) pe_int (nomark _)) pe_int pe_int)))
      (pss_cons (ps_set (i := 3) sc__law_instruction.nd rfl (.inl rfl) (pe_ix ix_list (pe_lst (pa_cons pe_str (pa_cons pe_str pa_nil))) (pe_call c__law_take.G (hr.mono (by decide)) (by rfl) c__law_take.m c__law_take.k c__law_take.b .nil pass0 (pa_cons (pv 0) (pa_cons pe_int pa_nil))) (fun _ _ => rfl)))
      (pss_cons (ps_set (i := 4) sc__law_instruction.nd rfl (.inl rfl) (pe_ix ix_list (pe_lst (pa_cons pe_int (pa_cons pe_int (pa_cons pe_int (pa_cons pe_int (pa_cons (pe_op op_sub pe_int pe_int) pa_nil)))))) (pe_op op_fdivN (pe_call c__law_take.G (hr.mono (by decide)) (by rfl) c__law_take.m c__law_take.k c__law_take.b .nil pass0 (pa_cons (pv 0) (pa_cons pe_int pa_nil))) pe_int) (fun _ _ => rfl)))
      (pss_cons (ps_set (i := 5) sc__law_instruction.nd rfl (.inl rfl) (pe_ix ix_list (pe_lst (pa_cons pe_str (pa_cons pe_str (pa_cons pe_str pa_nil)))) (pe_op op_fdivN (pe_call c__law_take.G (hr.mono (by decide)) (by rfl) c__law_take.m c__law_take.k c__law_take.b .nil pass0 (pa_cons (pv 0) (pa_cons pe_int pa_nil))) pe_int) (fun _ _ => rfl)))
      (pss_cons (ps_set (i := 6) sc__law_instruction.nd rfl (.inl rfl) (pe_tup (pa_cons (pe_tup (pa_cons pe_str (pa_cons pe_str (pa_cons (pv 2) pa_nil)))) (pa_cons (pe_tup (pa_cons pe_str (pa_cons pe_str (pa_cons (pe_call c__law_take.G (hr.mono (by decide)) (by rfl) c__law_take.m c__law_take.k c__law_take.b .nil pass0 (pa_cons (pv 0) (pa_cons (pv 1) pa_nil))) pa_nil)))) pa_nil))))
      (pss_cons (ps_set (i := 7) sc__law_instruction.nd rfl (.inl rfl) (pe_ix ix_list (pe_lst (pa_cons (pv 6) (pa_cons (pe_slice sl_tupA (pv 6) po_none (po_some pe_int)) (pa_cons (pv 6) (pa_cons (pe_revT (pv 6)) (pa_cons (pe_tup pa_nil) (pa_cons (pe_op op_catT (pv 6) (pe_slice sl_tupA (pv 6) (po_some pe_int) po_none)) pa_nil))))))) (pe_op op_fdivN (pe_call c__law_take.G (hr.mono (by decide)) (by rfl) c__law_take.m c__law_take.k c__law_take.b .nil pass0 (pa_cons (pv 0) (pa_cons pe_int pa_nil))) pe_int) (fun _ _ => rfl)))
      (pss_cons (ps_set (i := 8) sc__law_instruction.nd rfl (.inl rfl) (pe_ix ix_list (pe_lst (pa_cons pe_str (pa_cons pe_str (pa_cons pe_str pa_nil)))) (pe_op op_fdivN (pe_call c__law_take.G (hr.mono (by decide)) (by rfl) c__law_take.m c__law_take.k c__law_take.b .nil pass0 (pa_cons (pv 0) (pa_cons pe_int pa_nil))) pe_int) (fun _ _ => rfl)))
      (pss_cons (ps_set (i := 9) sc__law_instruction.nd rfl (.inl rfl) (pe_lst (pa_cons (pe_tup (pa_cons pe_str (pa_cons (pv 4) pa_nil))) (pa_cons (pe_tup (pa_cons pe_str (pa_cons (pv 3) pa_nil))) (pa_cons (pe_tup (pa_cons pe_str (pa_cons (pv 3) pa_nil))) (pa_cons (pe_tup (pa_cons pe_str pa_nil)) (pa_cons (pe_tup (pa_cons pe_str pa_nil)) (pa_cons (pe_tup (pa_cons pe_str (pa_cons (pv 2) pa_nil))) (pa_cons (pe_tup (pa_cons pe_str (pa_cons (pv 2) pa_nil))) pa_nil)))))))))
      (pss_cons (ps_set (i := 9) sc__law_instruction.nd rfl (.inl rfl) (pe_op op_cat (pv 9) (pe_lst (pa_cons (pe_tup (pa_cons pe_str (pa_cons (pv 5) (pa_cons pe_str pa_nil)))) (pa_cons (pe_tup (pa_cons pe_str (pa_cons (pv 5) (pa_cons (pv 7) pa_nil)))) (pa_cons (pe_tup (pa_cons pe_str (pa_cons (pv 3) pa_nil))) (pa_cons (pe_tup (pa_cons pe_str (pa_cons pe_int (pa_cons (pv 2) pa_nil)))) (pa_cons (pe_tup (pa_cons pe_str (pa_cons pe_int pa_nil))) (pa_cons (pe_tup (pa_cons pe_str (pa_cons pe_int pa_nil))) pa_nil)))))))))
      (pss_cons (ps_set (i := 9) sc__law_instruction.nd rfl (.inl rfl) (pe_op op_cat (pv 9) (pe_lst (pa_cons (pe_tup (pa_cons pe_str (pa_cons (pv 8) pa_nil))) (pa_cons (pe_tup (pa_cons pe_str pa_nil)) (pa_cons (pe_tup (pa_cons pe_str (pa_cons pe_int pa_nil))) (pa_cons (pe_tup (pa_cons pe_str (pa_cons (pv 3) pa_nil))) (pa_cons (pe_tup (pa_cons pe_str pa_nil)) (pa_cons (pe_tup (pa_cons pe_str pa_nil)) (pa_cons (pe_tup (pa_cons pe_str pa_nil)) pa_nil))))))))))
      (pss_one (ps_ret (pe_ix ix_list (pv 9) (pe_call c__law_take.G (hr.mono (by decide)) (by rfl) c__law_take.m c__law_take.k c__law_take.b .nil pass0 (pa_cons (pv 0) (pa_cons pe_int pa_nil))) (fun _ _ => rfl)))))))))))))), ?_⟩
    refine ⟨fun σ H' => ∃ g : Int, σ = [some (.ref d), some (.int m), some (.int g), none, none, none, none, none, none, none] ∧ Tape H' d c ∧ Kept d H H', ?_, ?_⟩
    · refine ⟨_, rfl, _, rfl, _, _, rfl, rfl, d, c, m + 1, rfl, hT, by omega, by omega, fun r H1 r0 r1 T1 O1 => ?_⟩
      refine ⟨_, rfl, d, c, 12, rfl, T1, by decide, by decide, fun s H2 s0 s1 T2 O2 => ⟨rfl, _, rfl, ?_⟩⟩
      refine ite2 (fun _ => ?_) (fun _ => ?_)
      · exact ⟨_, _, rfl, rfl, _, rfl, T2, O1.kept.trans O2.kept⟩
      · exact ⟨_, _, rfl, rfl, _, rfl, T2, O1.kept.trans O2.kept⟩
    rintro σ H1 ⟨g, rfl, T1, k1⟩
    refine ⟨by show 2 ≤ sizeLine; decide, fun l1 hl1 => ?_⟩
    have a1 : Acc K d c H (upd H1 l1 (.lst (nm24.map V.str))) [] [] [(l1, nm24.map V.str)] := (⟨by simp [AtL], T1, k1, fun m hm => by cases hm⟩ : Acc K d c H H1 [] [] []).lst hl1
    refine ⟨_, rfl, d, c, 2, rfl, a1.T, by decide, by decide, fun r H2 r0 r1 T2 O2 => ?_⟩
    have a2 := a1.take T2 O2
    obtain ⟨x, hx, e⟩ := pick_of (xs := nm24.map V.str) r0 r1
    obtain ⟨nm, hnm, rfl⟩ := str_of hx
    refine ⟨l1, _, _, _, rfl, rfl, SqL.of (a2.L (l1, _) (List.mem_cons_self ..)), e, ?_⟩
    clear e hx r0 r1 O2 a1 T2
    refine ⟨_, _, rfl, rfl, by show 5 ≤ sizeLine; decide, fun l2 hl2 => ?_⟩
    have a3 : Acc K d c H (upd H2 l2 (.lst (nu24.map V.int))) [] [] [(l2, nu24.map V.int), (l1, nm24.map V.str)] := a2.lst hl2
    refine ⟨_, rfl, d, c, 22, rfl, a3.T, by decide, by decide, fun r H3 r0 r1 T3 O3 => ?_⟩
    have a4 := a3.take T3 O3
    obtain ⟨x, hx, e⟩ := pick_of (xs := nu24.map V.int) (fdiv_nn r0 (show (0 : Int) < 9 by decide)) (fdiv_lt (n := 5) r0 (by decide) (by omega))
    obtain ⟨nu, hnu, rfl⟩ := intI_of hx
    refine ⟨_, _, rfl, rfl, ⟨by omega, by omega⟩, ?_⟩
    refine ⟨l2, _, _, _, rfl, rfl, SqL.of (a4.L (l2, _) (List.mem_cons_self ..)), e, ?_⟩
    clear e hx r0 r1 O3 a3 T3 a2
    refine ⟨by show 3 ≤ sizeLine; decide, fun l3 hl3 => ?_⟩
    have a5 := a4.lst (xs := en24.map V.str) hl3
    refine ⟨_, rfl, d, c, 13, rfl, a5.T, by decide, by decide, fun r H4 r0 r1 T4 O4 => ?_⟩
    have a6 := a5.take T4 O4
    obtain ⟨x, hx, e⟩ := pick_of (xs := en24.map V.str) (fdiv_nn r0 (show (0 : Int) < 6 by decide)) (fdiv_lt (n := 3) r0 (by decide) (by omega))
    obtain ⟨en, hen, rfl⟩ := str_of hx
    refine ⟨_, _, rfl, rfl, ⟨by omega, by omega⟩, ?_⟩
    refine ⟨l3, _, _, _, rfl, rfl, SqL.of (a6.L (l3, _) (List.mem_cons_self ..)), e, ?_⟩
    clear e hx r0 r1 O4 a5 T4 a4
    refine ⟨_, rfl, by show 3 ≤ sizeLine; decide, fun p1 h1 => ?_⟩
    have a7 := a6.tup h1 (es := [.str "go", .str "n", .int g]) (us := [.str "go", .str "n", .int g]) (by simp [AtL, At])
    refine ⟨_, rfl, _, rfl, d, c, m, rfl, a7.T, by omega, by omega, fun q H5 q0 q1 T5 O5 => ?_⟩
    have a8 := a7.take T5 O5
    clear a7 O5 a6
    refine ⟨by show 3 ≤ sizeLine; decide, fun p2 h2 => ?_⟩
    have a9 := a8.tup h2 (es := [.str "no", .str "n", .int q]) (us := [.str "no", .str "n", .int q]) (by simp [AtL, At])
    refine ⟨by show 2 ≤ sizeLine; decide, fun p3 h3 => ?_⟩
    have a10 := a9.tup h3 (es := [chI ("go", "n", g), chI ("no", "n", q)]) (us := [.ref p1, .ref p2]) a9.A
    clear a9 a8
    have nw1 : ¬ (HT.sIx ([V.ref p1, V.ref p2] : List V).length 0 none = 0 ∧ HT.sIx ([V.ref p1, V.ref p2] : List V).length ([V.ref p1, V.ref p2] : List V).length (some 1) = ([V.ref p1, V.ref p2] : List V).length) := by
      rw [show ([V.ref p1, V.ref p2] : List V).length = 2 from rfl]
      decide
    have nw2 : ¬ (HT.sIx ([V.ref p1, V.ref p2] : List V).length 0 (some 1) = 0 ∧ HT.sIx ([V.ref p1, V.ref p2] : List V).length ([V.ref p1, V.ref p2] : List V).length none = ([V.ref p1, V.ref p2] : List V).length) := by
      rw [show ([V.ref p1, V.ref p2] : List V).length = 2 from rfl]
      decide
    obtain ⟨v1, e1, F1⟩ := a10.A.get (i := 0) (d := chI ("go", "n", g)) rfl
    obtain ⟨v2, e2, F2⟩ := a10.A.get (i := 1) (d := chI ("no", "n", q)) rfl
    cases e1
    cases e2
    have F3 : (upd (upd H5 p2 (.tup [.str "no", .str "n", .int q])) p3 (.tup [.ref p1, .ref p2])) p3 = some (.tup [.ref p1, .ref p2]) := upd_same
    refine ⟨_, rfl, _, rfl, _, rfl, p3, _, rfl, SqT.of F3, fun q => absurd q nw1, fun _ t1 g1 => ?_⟩
    have s1 := same_upd (o := .tup [V.ref p1]) g1
    have G1 := upd_same (H := upd (upd H5 p2 (.tup [.str "no", .str "n", .int q])) p3 (.tup [.ref p1, .ref p2])) (a := t1) (o := .tup [V.ref p1])
    refine ⟨_, rfl, _, rfl, p3, _, rfl, SqT.of (s1 _ _ F3), fun t2 g2 => ?_⟩
    have s2 := Same.trans s1 (same_upd (o := .tup ([V.ref p1, V.ref p2] : List V).reverse) g2)
    have K1 := same_upd (o := .tup ([V.ref p1, V.ref p2] : List V).reverse) g2 _ _ G1
    have G2 := upd_same (H := upd (upd (upd H5 p2 (.tup [.str "no", .str "n", .int q])) p3 (.tup [.ref p1, .ref p2])) t1 (.tup [V.ref p1])) (a := t2) (o := .tup ([V.ref p1, V.ref p2] : List V).reverse)
    obtain ⟨H8, E8, s2, K1, G2⟩ : ∃ H8, H8 = upd (upd (upd (upd H5 p2 (.tup [.str "no", .str "n", .int q])) p3 (.tup [.ref p1, .ref p2])) t1 (.tup [V.ref p1])) t2 (.tup ([V.ref p1, V.ref p2] : List V).reverse) ∧ Same (upd (upd H5 p2 (.tup [.str "no", .str "n", .int q])) p3 (.tup [.ref p1, .ref p2])) H8 ∧ H8 t1 = some (.tup [V.ref p1]) ∧ H8 t2 = some (.tup [V.ref p2, V.ref p1]) := ⟨_, rfl, s2, K1, G2⟩
    have F3' := s2 _ _ F3
    refine ⟨Nat.zero_le _, fun t3 g3 => ?_⟩
    have g3 : H8 t3 = none := by rw [E8]; exact g3
    have s3 := same_upd (o := .tup ([] : List V)) g3
    have G3 := upd_same (H := H8) (a := t3) (o := .tup ([] : List V))
    have F3'' : (upd H8 t3 (.tup ([] : List V))) p3 = some (.tup [.ref p1, .ref p2]) := s3 _ _ F3'
    have F3x := F3''
    rw [E8] at F3x
    refine ⟨_, rfl, _, rfl, _, rfl, p3, _, rfl, SqT.of F3x, fun q => absurd q nw2, fun _ t4 g4 => ?_⟩
    have g4 : (upd H8 t3 (.tup ([] : List V))) t4 = none := by rw [E8]; exact g4
    have s4 := same_upd (o := .tup [V.ref p2]) g4
    have G4 := upd_same (H := upd H8 t3 (.tup ([] : List V))) (a := t4) (o := .tup [V.ref p2])
    have F4 := s4 _ _ F3''
    have F4x := F4
    have G4x := G4
    rw [E8] at F4x G4x
    refine ⟨p3, t4, _, _, rfl, rfl, SqT.of F4x, SqT.of G4x, (fun z => by cases z), by show 3 ≤ sizeLine; decide, (fun z => by cases z), fun _ t5 g5 => ?_⟩
    have g5 : (upd (upd H8 t3 (.tup ([] : List V))) t4 (.tup [V.ref p2])) t5 = none := by rw [E8]; exact g5
    have s5 := same_upd (o := .tup [V.ref p1, V.ref p2, V.ref p2]) g5
    have G5 := upd_same (H := upd (upd H8 t3 (.tup ([] : List V))) t4 (.tup [V.ref p2])) (a := t5) (o := .tup [V.ref p1, V.ref p2, V.ref p2])
    refine ⟨by show 6 ≤ sizeLine; decide, fun l4 g6 => ?_⟩
    have g6 : (upd (upd (upd H8 t3 (.tup ([] : List V))) t4 (.tup [V.ref p2])) t5 (.tup [V.ref p1, V.ref p2, V.ref p2])) l4 = none := by rw [E8]; exact g6
    have s6 := same_upd (o := .lst [V.ref p3, V.ref t1, V.ref p3, V.ref t2, V.ref t3, V.ref t5]) g6
    have G6 := upd_same (H := upd (upd (upd H8 t3 (.tup ([] : List V))) t4 (.tup [V.ref p2])) t5 (.tup [V.ref p1, V.ref p2, V.ref p2])) (a := l4) (o := .lst [V.ref p3, V.ref t1, V.ref p3, V.ref t2, V.ref t3, V.ref t5])
    obtain ⟨H9, E9⟩ : ∃ H9, H9 = upd (upd (upd (upd H8 t3 (.tup ([] : List V))) t4 (.tup [V.ref p2])) t5 (.tup [V.ref p1, V.ref p2, V.ref p2])) l4 (.lst [V.ref p3, V.ref t1, V.ref p3, V.ref t2, V.ref t3, V.ref t5]) := ⟨_, rfl⟩
    rw [← E9] at s6 G6
    have s56 := Same.trans s5 s6
    have s36 := Same.trans s3 (Same.trans s4 s56)
    have sAll := Same.trans s2 s36
    have T9 := a10.T.keep sAll
    have k9 := a10.k.trans (Kept.of sAll)
    have hAl : AtL K H9 ((chsL g q).map fun cs => Dt.tup (cs.map chI)) [V.ref p3, V.ref t1, V.ref p3, V.ref t2, V.ref t3, V.ref t5] := by
      have f1 := F1.keep sAll
      have f2 := F2.keep sAll
      have f3 := sAll _ _ F3
      have q1 := s36 _ _ K1
      have q2 := s36 _ _ G2
      have q3 := Same.trans s4 s56 _ _ G3
      have q5 := s6 _ _ G5
      simp only [chsL, bothL, List.map_cons, List.map_nil, AtL, At]
      exact ⟨_, _, rfl, ⟨p3, _, rfl, f3, _, _, rfl, f1, _, _, rfl, f2, rfl⟩, _, _, rfl, ⟨t1, _, rfl, q1, _, _, rfl, f1, rfl⟩, _, _, rfl, ⟨p3, _, rfl, f3, _, _, rfl, f1, _, _, rfl, f2, rfl⟩, _, _, rfl, ⟨t2, _, rfl, q2, _, _, rfl, f2, _, _, rfl, f1, rfl⟩, _, _, rfl, ⟨t3, _, rfl, q3, rfl⟩, _, _, rfl, ⟨t5, _, rfl, q5, _, _, rfl, f1, _, _, rfl, f2, _, _, rfl, f2, rfl⟩, rfl⟩
    have T9x := T9
    rw [E9, E8] at T9x
    refine ⟨_, rfl, d, c, 15, rfl, T9x, by decide, by decide, fun r H10 r0 r1 T10 O10 => ?_⟩
    have O10 : Off d H9 H10 := by
      rw [E9, E8]
      exact O10
    obtain ⟨i, ei⟩ := Int.eq_ofNat_of_zero_le (fdiv_nn r0 (show (0 : Int) < 3 by decide))
    have hi : i < 6 := by
      have := fdiv_lt (n := 6) r0 (show (0 : Int) < 3 by decide) (by omega)
      omega
    obtain ⟨cs, ecs⟩ : ∃ cs, (chsL g q)[i]? = some cs := ⟨_, List.getElem?_eq_getElem (by show i < 6; exact hi)⟩
    obtain ⟨x, ex, hx⟩ := hAl.get (i := i) (d := Dt.tup (cs.map chI)) (by rw [List.getElem?_map, ecs]; rfl)
    have k10 := k9.trans O10.kept
    have hx10 : At K H10 (Par.c cs).dt x := At.rws (T9.rws O10.kept) hx
    have L10 : H10 l4 = some (.lst [V.ref p3, V.ref t1, V.ref p3, V.ref t2, V.ref t3, V.ref t5]) := (T9.rws O10.kept).2 _ _ G6
    refine ⟨_, _, rfl, rfl, ⟨by omega, by omega⟩, ?_⟩
    refine ⟨l4, _, _, _, rfl, rfl, SqL.of L10, by rw [ei]; exact atI_nat ex, ?_⟩
    have hcs := List.mem_of_getElem? ecs
    have b0 : Acc K d c H H10 [(Par.c cs).dt] [x] [] := ⟨by simp only [AtL]; exact ⟨_, _, rfl, hx10, rfl⟩, T10, k10, fun m hm => by cases hm⟩
    clear L10 hx10 k10 T10 O10 hAl T9x T9 k9 sAll s36 s56 s6 G6 E9 s5 G5 F4 F4x G4 G4x s4 g4 g5 g6 g3 s3 G3 F3'' F3x F3' K1 G2 E8 s2 s1 G1 F3 F1 F2 a10 nw1 nw2 ei r0 r1 ecs ex hx
    -- word
    refine ⟨by show 3 ≤ sizeLine; decide, fun l5 hl5 => ?_⟩
    have b1 := b0.lst (xs := wo24.map V.str) hl5
    refine ⟨_, rfl, d, c, 13, rfl, b1.T, by decide, by decide, fun r H11 r0 r1 T11 O11 => ?_⟩
    have b2 := b1.take T11 O11
    obtain ⟨x', hx', e'⟩ := pick_of (xs := wo24.map V.str) (fdiv_nn r0 (show (0 : Int) < 6 by decide)) (fdiv_lt (n := 3) r0 (by decide) (by omega))
    obtain ⟨wo, hwo, rfl⟩ := str_of hx'
    refine ⟨_, _, rfl, rfl, ⟨by omega, by omega⟩, ?_⟩
    refine ⟨l5, _, _, _, rfl, rfl, SqL.of (b2.L (l5, _) (List.mem_cons_self ..)), e', ?_⟩
    have a0 : Acc K d c H H11 [(Par.c cs).dt] [x] [] := ⟨b2.A, b2.T, b2.k, fun m hm => by cases hm⟩
    clear e' hx' r0 r1 O11 b1 T11 b2 b0
    refine ⟨_, rfl, by show 2 ≤ sizeLine; decide, fun p10 h10 => ?_⟩
    have a1 := a0.tup h10 (es := [.str "push", .int nu]) (us := [.str "push", .int nu]) (by simp [AtL, At])
    clear a0
    refine ⟨_, rfl, by show 2 ≤ sizeLine; decide, fun p11 h11 => ?_⟩
    have a2 := a1.tup h11 (es := [.str "load", .str nm]) (us := [.str "load", .str nm]) (by simp [AtL, At])
    clear a1
    refine ⟨_, rfl, by show 2 ≤ sizeLine; decide, fun p12 h12 => ?_⟩
    have a3 := a2.tup h12 (es := [.str "store", .str nm]) (us := [.str "store", .str nm]) (by simp [AtL, At])
    clear a2
    refine ⟨by show 1 ≤ sizeLine; decide, fun p13 h13 => ?_⟩
    have a4 := a3.tup h13 (es := [.str "add"]) (us := [.str "add"]) (by simp [AtL, At])
    clear a3
    refine ⟨by show 1 ≤ sizeLine; decide, fun p14 h14 => ?_⟩
    have a5 := a4.tup h14 (es := [.str "less"]) (us := [.str "less"]) (by simp [AtL, At])
    clear a4
    refine ⟨_, rfl, by show 2 ≤ sizeLine; decide, fun p15 h15 => ?_⟩
    have a6 := a5.tup h15 (es := [.str "jump", .int g]) (us := [.str "jump", .int g]) (by simp [AtL, At])
    clear a5
    refine ⟨_, rfl, by show 2 ≤ sizeLine; decide, fun p16 h16 => ?_⟩
    have a7 := a6.tup h16 (es := [.str "zero", .int g]) (us := [.str "zero", .int g]) (by simp [AtL, At])
    clear a6
    refine ⟨by show 7 ≤ sizeLine; decide, fun m0 g0 => ?_⟩
    have b0 := a7.lst (xs := [.ref p10, .ref p11, .ref p12, .ref p13, .ref p14, .ref p15, .ref p16]) g0
    clear a7
    have a7 := b0
    clear b0
    refine ⟨_, rfl, ?_⟩
    refine ⟨_, rfl, by show 3 ≤ sizeLine; decide, fun p17 h17 => ?_⟩
    have a8 := a7.tup h17 (es := [.str "emit", .str en, .str "go"]) (us := [.str "emit", .str en, .str "go"]) (by simp [AtL, At])
    clear a7
    refine ⟨_, rfl, _, rfl, by show 3 ≤ sizeLine; decide, fun p18 h18 => ?_⟩
    have a9 := a8.tup h18 (es := [.str "wait", .str en, (Par.c cs).dt]) (us := [.str "wait", .str en, x]) (by simp only [AtL]; exact ⟨_, _, rfl, by simp [At], _, _, rfl, by simp [At], _, _, rfl, a8.hd, rfl⟩)
    clear a8
    refine ⟨_, rfl, by show 2 ≤ sizeLine; decide, fun p19 h19 => ?_⟩
    have a10 := a9.tup h19 (es := [.str "input", .str nm]) (us := [.str "input", .str nm]) (by simp [AtL, At])
    clear a9
    refine ⟨_, rfl, by show 3 ≤ sizeLine; decide, fun p20 h20 => ?_⟩
    have a11 := a10.tup h20 (es := [.str "round", .int 3, .int g]) (us := [.str "round", .int 3, .int g]) (by simp [AtL, At])
    clear a10
    refine ⟨by show 2 ≤ sizeLine; decide, fun p21 h21 => ?_⟩
    have a12 := a11.tup h21 (es := [.str "yes", .int 3]) (us := [.str "yes", .int 3]) (by simp [AtL, At])
    clear a11
    refine ⟨by show 2 ≤ sizeLine; decide, fun p22 h22 => ?_⟩
    have a13 := a12.tup h22 (es := [.str "no", .int 3]) (us := [.str "no", .int 3]) (by simp [AtL, At])
    clear a12
    refine ⟨by show 6 ≤ sizeLine; decide, fun m1 g1 => ?_⟩
    have b1 := a13.lst (xs := [.ref p17, .ref p18, .ref p19, .ref p20, .ref p21, .ref p22]) g1
    clear a13
    refine ⟨m0, m1, _, _, rfl, rfl, b1.L (m0, _) (List.mem_cons_of_mem _ (List.mem_cons_self ..)), b1.L (m1, _) (List.mem_cons_self ..), by show 13 ≤ sizeLine; decide, fun q1 f1 => ?_⟩
    have a13 := b1.lst (xs := [.ref p10, .ref p11, .ref p12, .ref p13, .ref p14, .ref p15, .ref p16, .ref p17, .ref p18, .ref p19, .ref p20, .ref p21, .ref p22]) f1
    clear b1
    refine ⟨_, rfl, ?_⟩
    refine ⟨_, rfl, by show 2 ≤ sizeLine; decide, fun p23 h23 => ?_⟩
    have a14 := a13.tup h23 (es := [.str "test", .str wo]) (us := [.str "test", .str wo]) (by simp [AtL, At])
    clear a13
    refine ⟨by show 1 ≤ sizeLine; decide, fun p24 h24 => ?_⟩
    have a15 := a14.tup h24 (es := [.str "stop"]) (us := [.str "stop"]) (by simp [AtL, At])
    clear a14
    refine ⟨by show 2 ≤ sizeLine; decide, fun p25 h25 => ?_⟩
    have a16 := a15.tup h25 (es := [.str "push", .int 1]) (us := [.str "push", .int 1]) (by simp [AtL, At])
    clear a15
    refine ⟨_, rfl, by show 2 ≤ sizeLine; decide, fun p26 h26 => ?_⟩
    have a17 := a16.tup h26 (es := [.str "store", .str nm]) (us := [.str "store", .str nm]) (by simp [AtL, At])
    clear a16
    refine ⟨by show 1 ≤ sizeLine; decide, fun p27 h27 => ?_⟩
    have a18 := a17.tup h27 (es := [.str "stop"]) (us := [.str "stop"]) (by simp [AtL, At])
    clear a17
    refine ⟨by show 1 ≤ sizeLine; decide, fun p28 h28 => ?_⟩
    have a19 := a18.tup h28 (es := [.str "fly"]) (us := [.str "fly"]) (by simp [AtL, At])
    clear a18
    refine ⟨by show 1 ≤ sizeLine; decide, fun p29 h29 => ?_⟩
    have a20 := a19.tup h29 (es := [.str "push"]) (us := [.str "push"]) (by simp [AtL, At])
    clear a19
    refine ⟨by show 7 ≤ sizeLine; decide, fun m2 g2 => ?_⟩
    have b2 := a20.lst (xs := [.ref p23, .ref p24, .ref p25, .ref p26, .ref p27, .ref p28, .ref p29]) g2
    clear a20
    refine ⟨q1, m2, _, _, rfl, rfl, b2.L (q1, _) (List.mem_cons_of_mem _ (List.mem_cons_self ..)), b2.L (m2, _) (List.mem_cons_self ..), by show 20 ≤ sizeLine; decide, fun q2 f2 => ?_⟩
    have a20 := b2.lst (xs := [.ref p10, .ref p11, .ref p12, .ref p13, .ref p14, .ref p15, .ref p16, .ref p17, .ref p18, .ref p19, .ref p20, .ref p21, .ref p22, .ref p23, .ref p24, .ref p25, .ref p26, .ref p27, .ref p28, .ref p29]) f2
    clear b2
    refine ⟨_, rfl, _, rfl, d, c, 20, rfl, a20.T, by decide, by decide, fun r H12 r0 r1 T12 O12 => ?_⟩
    have b3 := a20.take T12 O12
    clear a20
    obtain ⟨j, rfl⟩ := Int.eq_ofNat_of_zero_le r0
    have hj : j < 20 := by omega
    have hA : AtL K H12 ((Par.c cs).dt :: (menu24 g nm nu en cs wo).map I24.dt) (x :: [.ref p10, .ref p11, .ref p12, .ref p13, .ref p14, .ref p15, .ref p16, .ref p17, .ref p18, .ref p19, .ref p20, .ref p21, .ref p22, .ref p23, .ref p24, .ref p25, .ref p26, .ref p27, .ref p28, .ref p29]) := b3.A
    obtain ⟨a, ea⟩ : ∃ a, (menu24 g nm nu en cs wo)[j]? = some a := ⟨_, List.getElem?_eq_getElem (by show j < 20; exact hj)⟩
    obtain ⟨v, ev, hv⟩ := hA.get (i := j + 1) (d := a.dt) (by rw [List.getElem?_cons_succ, List.getElem?_map, ea]; rfl)
    rw [List.getElem?_cons_succ] at ev
    refine ⟨q2, _, _, _, rfl, rfl, SqL.of (b3.L (q2, _) (List.mem_cons_self ..)), atI_nat ev, ?_⟩
    exact k v a H12 (wf_menu hnm hen hcs hwo (List.mem_of_getElem? ea)) hv b3.T b3.k
end
end OS

namespace OS
open PySem PySem.Spec PyProof.Rows L2
def pats24 (g : Int) (at_ : Int) : List (List I24) :=
 [[⟨"push", [.n 1]⟩, ⟨"store", [.s "n"]⟩],
  [⟨"load", [.s "n"]⟩, ⟨"push", [.n 2]⟩, ⟨"sub", []⟩, ⟨"emit", [.s "b", .s "go"]⟩],
  [⟨"round", [.n 3, .n g]⟩, ⟨"load", [.s "n"]⟩, ⟨"zero", [.n g]⟩, ⟨"yes", [.n 3]⟩],
  [⟨"input", [.s "m"]⟩, ⟨"jump", [.n g]⟩],
  [⟨"wait", [.s "a", .c [("go", "n", g), ("no", "m", at_)]]⟩]]
theorem wf_pats {g a : Int} {L : List I24} (h : L ∈ pats24 g a) : ∀ b ∈ L, Wf b := by
  have all : ((pats24 g a).all fun L => L.all wfB) = true := by kernel_rfl
  exact fun b hb => wf_of (List.all_eq_true.mp (List.all_eq_true.mp all L h) b hb)
section
variable {P : Program} {w : World} {K : PySem.W.Frag} {mg : Str → Option Value} {base : Heap}
def spPat (K : PySem.W.Frag) : Sp := fun vs H Q _ => ∃ (d c : Addr) (i m : Int), vs = [.ref d, .int i, .int m] ∧ Tape H d c ∧ 1 ≤ m ∧ m ≤ 1000 ∧ ∀ (p : Addr) (L : List I24) (us : List V) H', H p = none → (∀ a ∈ L, Wf a) → 1 ≤ L.length → L.length ≤ 4 → H' p = some (.lst us) → AtL K H' (L.map I24.dt) us → Tape H' d c → Kept d H H' → Q (.ref p) H'
theorem ok_law_pattern {f : Addr} {fd : FuncData} (F : Fun K "_law_pattern" "_law_pattern" s__law_pattern f fd) (T : Txt K mg) {f__law_take : Addr} {d__law_take : FuncData} (c__law_take : Cal P w K mg base 1 "_law_take" ["tape", "many"] spTake f__law_take d__law_take) {f__law_instruction : Addr} {d__law_instruction : FuncData} (c__law_instruction : Cal P w K mg base 2 "_law_instruction" ["tape", "many"] (spIn K) f__law_instruction d__law_instruction) : FnOk P w K mg base CX0 3 f fd ["tape", "at", "many"] (spPat K) := by
  refine F.ok sc__law_pattern (fun vs H Q E h => ?_) (fun cdv A outer s H vs Q E hr h => ?_)
  · obtain ⟨d, c, i, m, rfl, _⟩ := h
    rfl
  · obtain ⟨d, c, i, m, rfl, hT, hm1, hm2, k⟩ := h
    refine ⟨_, (pss_cons (ps_set (i := 3) sc__law_pattern.nd rfl (.inl rfl) (pe_call c__law_take.G (hr.mono (by decide)) (by rfl) c__law_take.m c__law_take.k c__law_take.b .nil pass0 (pa_cons (pv 0) (pa_cons pe_int pa_nil))))
      (pss_cons (ps_set (i := 4) sc__law_pattern.nd rfl (.inl rfl) (pe_call c__law_take.G (hr.mono (by decide)) (by rfl) c__law_take.m c__law_take.k c__law_take.b .nil pass0 (pa_cons (pv 0) (pa_cons (pv 2) pa_nil))))
      (pss_cons (ps_if (pt_cmpR op_eq (pv 3) pe_int (nomark _)) (pss_one (ps_ret (pe_lst (pa_cons (pe_tup (pa_cons pe_str (pa_cons pe_int pa_nil))) (pa_cons (pe_tup (pa_cons pe_str (pa_cons pe_str pa_nil))) pa_nil))))) pss_nil)
      (pss_cons (ps_if (pt_cmpR op_eq (pv 3) pe_int (nomark _)) (pss_one (ps_ret (pe_lst (pa_cons (pe_tup (pa_cons pe_str (pa_cons pe_str pa_nil))) (pa_cons (pe_tup (pa_cons pe_str (pa_cons pe_int pa_nil))) (pa_cons (pe_tup (pa_cons pe_str pa_nil)) (pa_cons (pe_tup (pa_cons pe_str (pa_cons pe_str (pa_cons pe_str pa_nil)))) pa_nil))))))) pss_nil)
      (pss_cons (ps_if (pt_cmpR op_eq (pv 3) pe_int (nomark _)) (pss_one (ps_ret (pe_lst (pa_cons (pe_tup (pa_cons pe_str (pa_cons pe_int (pa_cons (pv 4) pa_nil)))) (pa_cons (pe_tup (pa_cons pe_str (pa_cons pe_str pa_nil))) (pa_cons (pe_tup (pa_cons pe_str (pa_cons (pv 4) pa_nil))) (pa_cons (pe_tup (pa_cons pe_str (pa_cons pe_int pa_nil))) pa_nil))))))) pss_nil)
      (pss_cons (ps_if (pt_cmpR op_eq (pv 3) pe_int (nomark _)) (pss_one (ps_ret (pe_lst (pa_cons (pe_tup (pa_cons pe_str (pa_cons pe_str pa_nil))) (pa_cons (pe_tup (pa_cons pe_str (pa_cons (pv 4) pa_nil))) pa_nil))))) pss_nil)
      (pss_cons (ps_if (pt_cmpR op_eq (pv 3) pe_int (nomark _)) (pss_one (ps_ret (pe_lst (pa_cons (pe_tup (pa_cons pe_str (pa_cons pe_str (pa_cons (pe_tup (pa_cons (pe_tup (pa_cons pe_str (pa_cons pe_str (pa_cons (pv 4) pa_nil)))) (pa_cons (pe_tup (pa_cons pe_str (pa_cons pe_str (pa_cons (pv 1) pa_nil)))) pa_nil))) pa_nil)))) pa_nil)))) pss_nil)
      (pss_one (ps_ret (pe_lst (pa_cons (pe_call c__law_instruction.G (hr.mono (by decide)) (by rfl) c__law_instruction.m c__law_instruction.k c__law_instruction.b .nil pass0 (pa_cons (pv 0) (pa_cons (pv 2) pa_nil))) pa_nil))))))))))), ?_⟩
    refine ⟨_, rfl, d, c, 6, rfl, hT, by decide, by decide, fun r H1 r0 r1 T1 O1 => ?_⟩
    refine ⟨_, rfl, _, rfl, d, c, m, rfl, T1, by omega, by omega, fun g H2 g0 g1 T2 O2 => ?_⟩
    have k2 := O1.kept.trans O2.kept
    have a0 : Acc K d c H H2 [] [] [] := ⟨by simp [AtL], T2, k2, fun m hm => by cases hm⟩
    have fin : ∀ {H' : Hp} {ds vs us ms} {p : Addr} {L : List I24}, Acc K d c H H' ds vs ms → H' p = none → (∀ a ∈ L, Wf a) → 1 ≤ L.length → L.length ≤ 4 → AtL K H' (L.map I24.dt) us → Q (.ref p) (upd H' p (.lst us)) := fun {H' ds vs us ms p L} a hp hw h1 h4 hA => by
      have b := a.put (o := .lst us) hp
      refine k p L us _ ?_ hw h1 h4 upd_same (AtL.keep (same_upd hp) hA) b.T b.k
      cases z : H p with
      | none => rfl
      | some o =>
        by_cases e : p = d
        · subst e
          have := (a.T.ne hp).1
          exact absurd rfl this
        · rw [a.k p o e z] at hp
          cases hp
    clear k2 T1 O1 O2
    refine ⟨_, rfl, rfl, _, rfl, ?_⟩
    -- patterns
    refine ite2 (fun _ => ?_) (fun _ => ?_)
    · refine ⟨by show 2 ≤ sizeLine; decide, fun p0 h0 => ?_⟩
      have a1 := a0.tup h0 (es := [.str "push", .int 1]) (us := [.str "push", .int 1]) (by simp [AtL, At])
      refine ⟨by show 2 ≤ sizeLine; decide, fun p1 h1 => ?_⟩
      have a2 := a1.tup h1 (es := [.str "store", .str "n"]) (us := [.str "store", .str "n"]) (by simp [AtL, At])
      exact ⟨by show 2 ≤ sizeLine; decide, fun p hp => fin (L := (pats24 g i)[0]'(by show 0 < 5; decide)) (us := [.ref p0, .ref p1]) a2 hp (wf_pats (List.getElem_mem _)) (by show 1 ≤ 2; decide) (by show 2 ≤ 4; decide) a2.A⟩
    refine ⟨_, rfl, rfl, _, rfl, ?_⟩
    refine ite2 (fun _ => ?_) (fun _ => ?_)
    · refine ⟨by show 2 ≤ sizeLine; decide, fun p0 h0 => ?_⟩
      have a1 := a0.tup h0 (es := [.str "load", .str "n"]) (us := [.str "load", .str "n"]) (by simp [AtL, At])
      refine ⟨by show 2 ≤ sizeLine; decide, fun p1 h1 => ?_⟩
      have a2 := a1.tup h1 (es := [.str "push", .int 2]) (us := [.str "push", .int 2]) (by simp [AtL, At])
      refine ⟨by show 1 ≤ sizeLine; decide, fun p2 h2 => ?_⟩
      have a3 := a2.tup h2 (es := [.str "sub"]) (us := [.str "sub"]) (by simp [AtL, At])
      refine ⟨by show 3 ≤ sizeLine; decide, fun p3 h3 => ?_⟩
      have a4 := a3.tup h3 (es := [.str "emit", .str "b", .str "go"]) (us := [.str "emit", .str "b", .str "go"]) (by simp [AtL, At])
      exact ⟨by show 4 ≤ sizeLine; decide, fun p hp => fin (L := (pats24 g i)[1]'(by show 1 < 5; decide)) (us := [.ref p0, .ref p1, .ref p2, .ref p3]) a4 hp (wf_pats (List.getElem_mem _)) (by show 1 ≤ 4; decide) (by show 4 ≤ 4; decide) a4.A⟩
    refine ⟨_, rfl, rfl, _, rfl, ?_⟩
    refine ite2 (fun _ => ?_) (fun _ => ?_)
    · refine ⟨_, rfl, by show 3 ≤ sizeLine; decide, fun p0 h0 => ?_⟩
      have a1 := a0.tup h0 (es := [.str "round", .int 3, .int g]) (us := [.str "round", .int 3, .int g]) (by simp [AtL, At])
      refine ⟨by show 2 ≤ sizeLine; decide, fun p1 h1 => ?_⟩
      have a2 := a1.tup h1 (es := [.str "load", .str "n"]) (us := [.str "load", .str "n"]) (by simp [AtL, At])
      refine ⟨_, rfl, by show 2 ≤ sizeLine; decide, fun p2 h2 => ?_⟩
      have a3 := a2.tup h2 (es := [.str "zero", .int g]) (us := [.str "zero", .int g]) (by simp [AtL, At])
      refine ⟨by show 2 ≤ sizeLine; decide, fun p3 h3 => ?_⟩
      have a4 := a3.tup h3 (es := [.str "yes", .int 3]) (us := [.str "yes", .int 3]) (by simp [AtL, At])
      exact ⟨by show 4 ≤ sizeLine; decide, fun p hp => fin (L := (pats24 g i)[2]'(by show 2 < 5; decide)) (us := [.ref p0, .ref p1, .ref p2, .ref p3]) a4 hp (wf_pats (List.getElem_mem _)) (by show 1 ≤ 4; decide) (by show 4 ≤ 4; decide) a4.A⟩
    refine ⟨_, rfl, rfl, _, rfl, ?_⟩
    refine ite2 (fun _ => ?_) (fun _ => ?_)
    · refine ⟨by show 2 ≤ sizeLine; decide, fun p0 h0 => ?_⟩
      have a1 := a0.tup h0 (es := [.str "input", .str "m"]) (us := [.str "input", .str "m"]) (by simp [AtL, At])
      refine ⟨_, rfl, by show 2 ≤ sizeLine; decide, fun p1 h1 => ?_⟩
      have a2 := a1.tup h1 (es := [.str "jump", .int g]) (us := [.str "jump", .int g]) (by simp [AtL, At])
      exact ⟨by show 2 ≤ sizeLine; decide, fun p hp => fin (L := (pats24 g i)[3]'(by show 3 < 5; decide)) (us := [.ref p0, .ref p1]) a2 hp (wf_pats (List.getElem_mem _)) (by show 1 ≤ 2; decide) (by show 2 ≤ 4; decide) a2.A⟩
    refine ⟨_, rfl, rfl, _, rfl, ?_⟩
    refine ite2 (fun _ => ?_) (fun _ => ?_)
    · refine ⟨_, rfl, by show 3 ≤ sizeLine; decide, fun p0 h0 => ?_⟩
      have a1 := a0.tup h0 (es := [.str "go", .str "n", .int g]) (us := [.str "go", .str "n", .int g]) (by simp [AtL, At])
      refine ⟨_, rfl, by show 3 ≤ sizeLine; decide, fun p1 h1 => ?_⟩
      have a2 := a1.tup h1 (es := [.str "no", .str "m", .int i]) (us := [.str "no", .str "m", .int i]) (by simp [AtL, At])
      refine ⟨by show 2 ≤ sizeLine; decide, fun p2 h2 => ?_⟩
      have a3 := a2.tup h2 (es := [.tup [.str "go", .str "n", .int g], .tup [.str "no", .str "m", .int i]]) (us := [.ref p0, .ref p1]) a2.A
      obtain ⟨v3, e3, f3⟩ := a3.A.get (i := 2) (d := .tup [.tup [.str "go", .str "n", .int g], .tup [.str "no", .str "m", .int i]]) rfl
      cases e3
      refine ⟨by show 3 ≤ sizeLine; decide, fun p3 h3 => ?_⟩
      have a4 := a3.tup h3 (es := [.str "wait", .str "a", .tup [.tup [.str "go", .str "n", .int g], .tup [.str "no", .str "m", .int i]]]) (us := [.str "wait", .str "a", .ref p2]) (by simp only [AtL]; exact ⟨_, _, rfl, by simp [At], _, _, rfl, by simp [At], _, _, rfl, f3, rfl⟩)
      obtain ⟨v4, e4, f4⟩ := a4.A.get (i := 3) (d := .tup [.str "wait", .str "a", .tup [.tup [.str "go", .str "n", .int g], .tup [.str "no", .str "m", .int i]]]) rfl
      cases e4
      refine ⟨by show 1 ≤ sizeLine; decide, fun p hp => fin (L := (pats24 g i)[4]'(by show 4 < 5; decide)) (us := [.ref p3]) a4 hp (wf_pats (List.getElem_mem _)) (by show 1 ≤ 1; decide) (by show 1 ≤ 4; decide) ?_⟩
      show AtL K _ [_] _
      simp only [AtL]
      exact ⟨_, _, rfl, f4, rfl⟩
    refine ⟨_, rfl, _, rfl, d, c, m, rfl, T2, hm1, hm2, fun v a H3 hw hv T3 k3 => ?_⟩
    have a1 : Acc K d c H H3 [a.dt] [v] [] := ⟨by simp only [AtL]; exact ⟨_, _, rfl, hv, rfl⟩, T3, a0.k.trans k3, fun m hm => by cases hm⟩
    exact ⟨by show 1 ≤ sizeLine; decide, fun p hp => fin (L := [a]) (us := [v]) a1 hp (fun b hb => by rw [List.mem_singleton.mp hb]; exact hw) (Nat.le_refl _) (by show 1 ≤ 4; decide) a1.A⟩
end
end OS

namespace OS
open PySem PySem.Spec PyProof.Rows L2
def ab24 : List Str := ["a", "b"]
theorem wf_stop : Wf ⟨"stop", []⟩ := wf_of (by kernel_rfl)
theorem chI_tupO (c : Str × Str × Int) : tupO (chI c) = true := by simp [chI, tupO, tupOL]
theorem tupOL_all {α : Type} (f : α → Dt) (h : ∀ a, tupO (f a) = true) : ∀ l : List α, tupOL (l.map f) = true
  | [] => by simp [tupOL]
  | a :: l => by
    rw [List.map_cons]
    unfold tupOL
    rw [h a, tupOL_all f h l]
    rfl
theorem par_tupO (p : Par) : tupO p.dt = true := by
  cases p with
  | n i => simp [Par.dt, tupO]
  | s z => simp [Par.dt, tupO]
  | c cs =>
    unfold Par.dt tupO
    exact tupOL_all _ chI_tupO cs
theorem i24_tupO (a : I24) : tupO a.dt = true := by
  unfold I24.dt tupO tupOL
  rw [tupOL_all _ par_tupO a.ps]
  rfl
theorem AtL.app {K : PySem.W.Frag} {H : Hp} : ∀ {ds es : List Dt} {vs us : List V}, AtL K H ds vs → AtL K H es us → AtL K H (ds ++ es) (vs ++ us)
  | [], es, vs, us, h, g => by
    unfold AtL at h
    subst h
    exact g
  | d :: ds, es, vs, us, h, g => by
    unfold AtL at h
    obtain ⟨v, r, rfl, h1, h2⟩ := h
    show AtL K H (d :: (ds ++ es)) (v :: (r ++ us))
    unfold AtL
    exact ⟨v, _, rfl, h1, AtL.app h2 g⟩
theorem AtL.take {K : PySem.W.Frag} {H : Hp} : ∀ {ds : List Dt} {vs : List V} (n : Nat), AtL K H ds vs → AtL K H (ds.take n) (vs.take n)
  | ds, vs, 0, h => by
    rw [List.take_zero, List.take_zero]
    unfold AtL
    rfl
  | [], vs, n + 1, h => by
    unfold AtL at h
    subst h
    unfold AtL
    rfl
  | d :: ds, vs, n + 1, h => by
    unfold AtL at h
    obtain ⟨v, r, rfl, h1, h2⟩ := h
    show AtL K H (d :: ds.take n) (v :: r.take n)
    unfold AtL
    exact ⟨v, _, rfl, h1, AtL.take n h2⟩
theorem cut_takeV {xs : List V} {n : Nat} : cutV xs none (some (n : Int)) = xs.take n := by
  unfold cutV
  rw [HT.sIx_nat, HT.sIx_none, List.drop_zero, Nat.sub_zero]
  by_cases h : n ≤ xs.length
  · rw [Nat.min_eq_left h]
  · rw [Nat.min_eq_right (by omega), List.take_of_length_le (Nat.le_refl _), List.take_of_length_le (by omega)]
theorem cut_lastV {xs : List V} (h : 1 ≤ xs.length) : cutV xs none (some (-1)) = xs.take (xs.length - 1) := by
  unfold cutV
  have e : HT.sIx xs.length xs.length (some (-1)) = xs.length - 1 := by
    show (if (-1 : Int) < 0 then ((-1 : Int) + (xs.length : Int)).toNat else min (-1 : Int).toNat xs.length) = _
    rw [if_pos (by decide)]
    omega
  rw [HT.sIx_none, e, List.drop_zero, Nat.sub_zero]
theorem CodeAt.rws {K : PySem.W.Frag} {H H' : Hp} {cd : Addr} {C : List I24} (s : Rws H H') (h : CodeAt K H cd C) : CodeAt K H' cd C := by
  obtain ⟨us, h1, h2⟩ := h
  exact ⟨us, s.1 _ _ h1, AtL.rws s h2⟩
section
variable {P : Program} {w : World} {K : PySem.W.Frag} {mg : Str → Option Value} {base : Heap}
def spLaw (K : PySem.W.Frag) : Sp := fun vs H Q _ => ∃ (a : Addr) (ns : List Int), vs = [.ref a] ∧ SqL K H a (ns.map V.int) ∧ ns.length ≤ 63 ∧ ∀ H', Q (.bl true) H'
theorem ok_law {f : Addr} {fd : FuncData} (F : Fun K "law" "law" s_law f fd) (T : Txt K mg) {f__law_take : Addr} {d__law_take : FuncData} (c__law_take : Cal P w K mg base 1 "_law_take" ["tape", "many"] spTake f__law_take d__law_take) {f__law_tape : Addr} {d__law_tape : FuncData} (c__law_tape : Cal P w K mg base 1 "_law_tape" ["script"] (spTape K) f__law_tape d__law_tape) {f__law_instruction : Addr} {d__law_instruction : FuncData} (c__law_instruction : Cal P w K mg base 2 "_law_instruction" ["tape", "many"] (spIn K) f__law_instruction d__law_instruction) {f__law_pattern : Addr} {d__law_pattern : FuncData} (c__law_pattern : Cal P w K mg base 3 "_law_pattern" ["tape", "at", "many"] (spPat K) f__law_pattern d__law_pattern) {f_is_sound : Addr} {d_is_sound : FuncData} (c_is_sound : Cal P w K mg base 6 "is_sound" ["ends", "code"] (spSound K) f_is_sound d_is_sound) {f__law_sound : Addr} {d__law_sound : FuncData} (c__law_sound : Cal P w K mg base 3 "_law_sound" ["ends", "code"] (spSound K) f__law_sound d__law_sound) {f__law_same : Addr} {d__law_same : FuncData} (c__law_same : Cal P w K mg base 10 "_law_same" ["actual", "expected"] (spSame K 5) f__law_same d__law_same) : FnOk P w K mg base CX0 11 f fd ["script"] (spLaw K) := by
  refine F.ok sc_law (fun vs H Q E h => ?_) (fun cdv A outer s H vs Q E hr h => ?_)
  · obtain ⟨a, ns, rfl, _⟩ := h
    rfl
  · obtain ⟨a, ns, rfl, hS, h63, k⟩ := h
    refine ⟨_, (pss_cons (ps_set (i := 1) sc_law.nd rfl (.inl rfl) (pe_call c__law_tape.G (hr.mono (by decide)) (by rfl) c__law_tape.m c__law_tape.k c__law_tape.b .nil pass0 (pa_cons (pv 0) pa_nil)))
      (pss_cons (ps_for PassesOwn.never rfl (pi_range1 (by rfl) T.range (pa_cons pe_int pa_nil)) (pg_name (i := 2) sc_law.nd rfl (.inl rfl)) (pss_cons (ps_set (i := 3) sc_law.nd rfl (.inl rfl) (pe_op op_add pe_int (pe_call c__law_take.G (hr.mono (by decide)) (by rfl) c__law_take.m c__law_take.k c__law_take.b .nil pass0 (pa_cons (pv 1) (pa_cons pe_int pa_nil)))))
      (pss_cons (ps_set (i := 4) sc_law.nd rfl (.inl rfl) (pe_lst pa_nil))
      (Evl.pss_cut (ps_while PassesOwn.never (pt_cmpR op_lt (pe_callB call_len_seq (by rfl) T.len PySem.boot_len (pa_cons (pv 4) pa_nil)) (pv 3) (nomark _)) (pss_one (ps_if (pt_cmpR op_gt (pe_call c__law_take.G (hr.mono (by decide)) (by rfl) c__law_take.m c__law_take.k c__law_take.b .nil pass0 (pa_cons (pv 1) (pa_cons pe_int pa_nil))) pe_int (nomark _)) (pss_one (ps_set (i := 4) sc_law.nd rfl (.inl rfl) (pe_op op_cat (pv 4) (pe_call c__law_pattern.G (hr.mono (by decide)) (by rfl) c__law_pattern.m c__law_pattern.k c__law_pattern.b .nil pass0 (pa_cons (pv 1) (pa_cons (pe_callB call_len_seq (by rfl) T.len PySem.boot_len (pa_cons (pv 4) pa_nil)) (pa_cons (pv 3) pa_nil))))))) (pss_one (ps_expr (pe_bm PySem.F.plainAttrs_list PySem.F.slot_list_append PySem.F.type_list_append mt_append (pv 4) (pa_cons (pe_call c__law_instruction.G (hr.mono (by decide)) (by rfl) c__law_instruction.m c__law_instruction.k c__law_instruction.b .nil pass0 (pa_cons (pv 1) (pa_cons (pv 3) pa_nil))) pa_nil)))))))
      (pss_cons (ps_set (i := 4) sc_law.nd rfl (.inl rfl) (pe_callTy call_tuple_of (by rfl) T.tuple (by decide +kernel) (pa_cons (pe_slice sl_list (pv 4) po_none (po_some (pv 3))) pa_nil)))
      (Evl.pss_cut (ps_if (pt_cmpR op_gt (pe_call c__law_take.G (hr.mono (by decide)) (by rfl) c__law_take.m c__law_take.k c__law_take.b .nil pass0 (pa_cons (pv 1) (pa_cons pe_int pa_nil))) pe_int (nomark _)) (pss_one (ps_set (i := 4) sc_law.nd rfl (.inl rfl) (pe_op op_catT (pe_slice sl_tupA (pv 4) po_none (po_some (pe_un un_neg pe_int))) (pe_tup (pa_cons (pe_tup (pa_cons pe_str pa_nil)) pa_nil))))) pss_nil)
      (pss_one (ps_if (pt_not (pt_val (pe_call c__law_same.G (hr.mono (by decide)) (by rfl) c__law_same.m c__law_same.k c__law_same.b .nil pass0 (pa_cons (pe_call c_is_sound.G (hr.mono (by decide)) (by rfl) c_is_sound.m c_is_sound.k c_is_sound.b .nil pass0 (pa_cons (pe_tup (pa_cons pe_str (pa_cons pe_str pa_nil))) (pa_cons (pv 4) pa_nil))) (pa_cons (pe_call c__law_sound.G (hr.mono (by decide)) (by rfl) c__law_sound.m c__law_sound.k c__law_sound.b .nil pass0 (pa_cons (pe_tup (pa_cons pe_str (pa_cons pe_str pa_nil))) (pa_cons (pv 4) pa_nil))) pa_nil))))) (pss_one (ps_ret pe_bl)) pss_nil))))))))
      (pss_one (ps_ret (pe_cmpR op_isBl (pe_call c_is_sound.G (hr.mono (by decide)) (by rfl) c_is_sound.m c_is_sound.k c_is_sound.b .nil pass0 (pa_cons (pe_tup (pa_cons pe_str pa_nil)) (pa_cons (pe_tup pa_nil) pa_nil))) pe_bl (nomark _)))))), ?_⟩
    refine ⟨_, rfl, a, ns, rfl, hS, h63, fun d c H1 s1 nd nc T1 => ?_⟩
    refine ⟨4, rfl, by decide, by decide, ?_⟩
    refine for_range (n := 4) (fun i σ H' => ∃ y2 y3 y4, σ = [some (.ref a), some (.ref d), y2, y3, y4] ∧ Tape H' d c) ⟨_, _, _, rfl, T1⟩ ?_ ?_
    · rintro i σ H2 hi ⟨y2, y3, y4, rfl, T2⟩
      refine ⟨_, rfl, d, c, 11, rfl, T2, by decide, by decide, fun r H3 r0 r1 T3 O3 => ?_⟩
      refine ⟨_, _, rfl, rfl, Nat.zero_le _, fun cl hcl => ?_⟩
      have T4 := T3.keep (same_upd (o := .lst ([] : List V)) hcl)
      have hcl4 : (upd H3 cl (.lst ([] : List V))) cl = some (.lst []) := upd_same
      refine ⟨fun σ H' => ∃ (cl : Addr) (C : List I24) (vs : List V), σ = [some (.ref a), some (.ref d), some (.int (0 + (i : Nat))), some (.int (2 + r)), some (.ref cl)] ∧ Tape H' d c ∧ H' cl = some (.lst vs) ∧ AtL K H' (C.map I24.dt) vs ∧ (∀ b ∈ C, Wf b) ∧ 2 + r ≤ (C.length : Int) ∧ C.length ≤ 16, ?_, ?_⟩
      · refine ⟨fun m σ H' => ∃ (cl : Addr) (C : List I24) (vs : List V), σ = [some (.ref a), some (.ref d), some (.int (0 + (i : Nat))), some (.int (2 + r)), some (.ref cl)] ∧ Tape H' d c ∧ H' cl = some (.lst vs) ∧ AtL K H' (C.map I24.dt) vs ∧ (∀ b ∈ C, Wf b) ∧ C.length ≤ 16 ∧ m + C.length = 16 ∧ (cl ≠ d ∧ cl ≠ c), ⟨16, cl, [], [], rfl, T4, hcl4, by simp [AtL], (fun b hb => by cases hb), by decide, rfl, T3.ne hcl⟩, ?_⟩
        rintro m σ H5 ⟨cl, C, vs, rfl, T5, hcl5, hA5, hw5, h16, hm, hne⟩
        have lvs := hA5.length
        rw [List.length_map] at lvs
        refine ⟨_, rfl, cl, _, rfl, .inl (SqL.of hcl5), _, rfl, _, _, rfl, rfl, _, rfl, ?_⟩
        rw [lvs]
        by_cases cc : (C.length : Int) < 2 + r
        · rw [decide_eq_true cc]
          refine iteT ⟨_, fun _ _ h => h, ?_⟩
          refine ⟨_, rfl, d, c, 4, rfl, T5, by decide, by decide, fun q H6 q0 q1 T6 O6 => ⟨_, _, rfl, rfl, _, rfl, ?_⟩⟩
          have w6 := T5.rws O6.kept
          have hcl6 := w6.2 _ _ hcl5
          have hA6 := AtL.rws w6 hA5
          clear w6 hcl5 hA5
          refine ite2 (fun _ => ?_) (fun _ => ?_)
          · refine ⟨_, rfl, _, rfl, _, rfl, cl, _, rfl, .inl (SqL.of hcl6), _, rfl, d, c, _, 2 + r, rfl, T6, by omega, by omega, fun p L us H7 np hwL h1 h4 hp hL T7 k7 => ?_⟩
            have w7 := T6.rws k7
            have hcl7 := w7.2 _ _ hcl6
            have lus := hL.length
            rw [List.length_map] at lus
            refine ⟨cl, p, _, _, rfl, rfl, hcl7, hp, Nat.le_trans (show vs.length + us.length ≤ 100000 by omega) (by decide), fun q hq => ?_⟩
            refine ⟨m - L.length, by omega, q, C ++ L, vs ++ us, rfl, T7.keep (same_upd hq), upd_same, ?_, ?_, by rw [List.length_append]; omega, by rw [List.length_append]; omega, T7.ne hq⟩
            · rw [List.map_append]
              exact AtL.keep (same_upd hq) (AtL.app (AtL.rws w7 hA6) hL)
            · intro b hb
              rcases List.mem_append.mp hb with hb | hb
              · exact hw5 b hb
              · exact hwL b hb
          · refine ⟨_, rfl, .inl ⟨rfl, _, SqL.of hcl6⟩, _, rfl, _, rfl, d, c, 2 + r, rfl, T6, by omega, by omega, fun v b H7 hwb hv T7 k7 => ?_⟩
            have w7 := T6.rws k7
            have hcl7 := w7.2 _ _ hcl6
            have kp := kpT_lst (ys := vs ++ [v]) hcl7
            refine ⟨cl, _, _, rfl, rfl, hcl7, sz6' (by omega), ?_⟩
            refine ⟨m - 1, by omega, cl, C ++ [b], vs ++ [v], rfl, T7.put hne, upd_same, ?_, ?_, by rw [List.length_append, List.length_singleton]; omega, by rw [List.length_append, List.length_singleton]; omega, hne⟩
            · rw [List.map_append]
              exact AtL.snoc (At.kpT kp (i24_tupO b) hv) (AtL.kpT kp (tupOL_all _ i24_tupO C) (AtL.rws w7 hA6))
            · intro x hx
              rcases List.mem_append.mp hx with hx | hx
              · exact hw5 x hx
              · rw [List.mem_singleton.mp hx]
                exact hwb
        · rw [decide_eq_false cc]
          exact iteF ⟨cl, C, vs, rfl, T5, hcl5, hA5, hw5, by omega, h16⟩
      rintro σ H5 ⟨cl, C, vs, rfl, T5, hcl5, hA5, hw5, hlo, h16⟩
      have lvs := hA5.length
      rw [List.length_map] at lvs
      refine ⟨_, rfl, _, rfl, _, rfl, cl, _, rfl, SqL.of hcl5, fun p1 h1 => ?_⟩
      have s6 := same_upd (o := .lst (cutV vs none (some (2 + r)))) h1
      have G1 := upd_same (H := H5) (a := p1) (o := .lst (cutV vs none (some (2 + r))))
      refine ⟨p1, _, rfl, .inl ⟨SqL.of G1, fun t ht => ?_⟩⟩
      have s7 := Same.trans s6 (same_upd (o := .tup (cutV vs none (some (2 + r)))) ht)
      have G2 := upd_same (H := upd H5 p1 (.lst (cutV vs none (some (2 + r))))) (a := t) (o := .tup (cutV vs none (some (2 + r))))
      obtain ⟨rn, rfl⟩ := Int.eq_ofNat_of_zero_le r0
      have ecut : cutV vs none (some (2 + (rn : Int))) = vs.take (2 + rn) := by
        rw [show (2 + (rn : Int)) = ((2 + rn : Nat) : Int) by omega]
        exact cut_takeV
      rw [ecut] at G2
      have T7 := T5.keep s7
      have hC7 : CodeAt K (upd (upd H5 p1 (.lst (cutV vs none (some (2 + (rn : Int)))))) t (.tup (cutV vs none (some (2 + (rn : Int)))))) t (C.take (2 + rn)) := ⟨vs.take (2 + rn), (by rw [ecut]; exact G2), by rw [List.map_take]; exact AtL.take _ (AtL.keep s7 hA5)⟩
      have hw7 : ∀ b ∈ C.take (2 + rn), Wf b := fun b hb => hw5 b (List.mem_of_mem_take hb)
      have l7 : (C.take (2 + rn)).length = 2 + rn := by rw [List.length_take]; omega
      generalize C.take (2 + rn) = C1 at hC7 hw7 l7
      refine ⟨fun σ H' => ∃ (t : Addr) (C2 : List I24), σ = [some (.ref a), some (.ref d), some (.int (0 + (i : Nat))), some (.int (2 + (rn : Int))), some (.ref t)] ∧ Tape H' d c ∧ CodeAt K H' t C2 ∧ (∀ b ∈ C2, Wf b) ∧ C2.length ≤ 60, ?_, ?_⟩
      · refine ⟨_, rfl, d, c, 3, rfl, T7, by decide, by decide, fun q H8 q0 q1 T8 O8 => ⟨_, _, rfl, rfl, _, rfl, ?_⟩⟩
        have hC8 := CodeAt.rws (T7.rws O8.kept) hC7
        obtain ⟨us, hus, hAu⟩ := id hC8
        have lus := hAu.length
        rw [List.length_map] at lus
        refine ite2 (fun _ => ?_) (fun _ => ?_)
        · have nwh : ¬ (HT.sIx us.length 0 none = 0 ∧ HT.sIx us.length us.length (some (-1)) = us.length) := fun z => by
            have e : HT.sIx us.length us.length (some (-1)) = us.length - 1 := by
              show (if (-1 : Int) < 0 then ((-1 : Int) + (us.length : Int)).toNat else min (-1 : Int).toNat us.length) = _
              rw [if_pos (by decide)]
              omega
            rw [e] at z
            omega
          refine ⟨_, rfl, _, rfl, _, rfl, t, _, rfl, SqT.of hus, fun z => absurd z nwh, fun _ p2 h2 => ?_⟩
          have sa := same_upd (o := .tup (cutV us none (some (-1)))) h2
          have Ga := upd_same (H := H8) (a := p2) (o := .tup (cutV us none (some (-1))))
          have ec2 : cutV us none (some (-1)) = us.take (us.length - 1) := cut_lastV (by omega)
          refine ⟨by show 1 ≤ sizeLine; decide, fun p3 h3 => ?_⟩
          have sb := Same.trans sa (same_upd (o := .tup [V.str "stop"]) h3)
          have Ga2 := same_upd (o := .tup [V.str "stop"]) h3 _ _ Ga
          have Gb := upd_same (H := upd H8 p2 (.tup (cutV us none (some (-1))))) (a := p3) (o := .tup [V.str "stop"])
          refine ⟨by show 1 ≤ sizeLine; decide, fun p4 h4 => ?_⟩
          have sc := Same.trans sb (same_upd (o := .tup [V.ref p3]) h4)
          have Ga3 := same_upd (o := .tup [V.ref p3]) h4 _ _ Ga2
          have Gb2 := same_upd (o := .tup [V.ref p3]) h4 _ _ Gb
          have Gc := upd_same (H := upd (upd H8 p2 (.tup (cutV us none (some (-1))))) p3 (.tup [V.str "stop"])) (a := p4) (o := .tup [V.ref p3])
          refine ⟨p2, p4, _, _, rfl, rfl, SqT.of Ga3, SqT.of Gc, ?_, ?_, (fun z => by cases z), fun _ p5 h5 => ?_⟩
          · rw [ec2]
            intro z
            have := congrArg List.length z
            rw [List.length_take, List.length_nil] at this
            omega
          · rw [ec2, List.length_take]
            exact Nat.le_trans (show min (us.length - 1) us.length + 1 ≤ 100000 by omega) (by decide)
          have sd := Same.trans sc (same_upd (o := .tup (cutV us none (some (-1)) ++ [V.ref p3])) h5)
          have Gb3 := same_upd (o := .tup (cutV us none (some (-1)) ++ [V.ref p3])) h5 _ _ Gb2
          refine ⟨p5, C1.take (us.length - 1) ++ [⟨"stop", []⟩], rfl, T8.keep sd, ⟨_, upd_same, ?_⟩, ?_, by rw [List.length_append, List.length_take, List.length_singleton]; omega⟩
          · rw [ec2, List.map_append, List.map_take]
            refine AtL.snoc (d := I24.dt ⟨"stop", []⟩) ?_ (AtL.take _ ?_)
            · have Gb4 := Gb3
              rw [ec2] at Gb4
              simp only [I24.dt, List.map_nil, At, AtL]
              exact ⟨p3, _, rfl, Gb4, _, _, rfl, rfl, rfl⟩
            · have := AtL.keep sd hAu
              rw [ec2] at this
              exact this
          · intro b hb
            rcases List.mem_append.mp hb with hb | hb
            · exact hw7 b (List.mem_of_mem_take hb)
            · rw [List.mem_singleton.mp hb]
              exact wf_stop
        · exact ⟨t, C1, rfl, T8, hC8, hw7, by omega⟩
      rintro σ H8 ⟨t, C2, rfl, T8, hC8, hw8, h60⟩
      refine ⟨by show 2 ≤ sizeLine; decide, fun e1 g1 => ?_⟩
      have x1 := same_upd (o := .tup (ab24.map V.str)) g1
      refine ⟨_, rfl, e1, t, ab24, C2, rfl, SqT.of upd_same, hC8.keep x1, hw8, h60, fun b1 hb1 H9 s9 => ?_⟩
      have x2 := Same.trans x1 s9
      refine ⟨by show 2 ≤ sizeLine; decide, fun e2 g2 => ?_⟩
      have x3 := Same.trans x2 (same_upd (o := .tup (ab24.map V.str)) g2)
      refine ⟨_, rfl, e2, t, ab24, C2, rfl, SqT.of upd_same, hC8.keep x3, hw8, h60, fun b2 hb2 H10 s10 => ?_⟩
      have e : b2 = b1 := by
        cases b1 with
        | true => exact hb2.mpr (hb1.mp rfl)
        | false =>
          cases b2 with
          | false => rfl
          | true => exact (hb1.mpr (hb2.mp rfl)).symm
      subst e
      refine ⟨_, _, .bl b2, rfl, by simp [At], by simp [At], by simp [dep], by simp [narrow], true, rfl, iteF ⟨_, _, _, rfl, T8.keep (Same.trans x3 s10)⟩⟩
    · rintro σ H2 ⟨y2, y3, y4, rfl, T2⟩
      refine ⟨by show 1 ≤ sizeLine; decide, fun e1 g1 => ?_⟩
      refine ⟨Nat.zero_le _, fun e2 g2 => ?_⟩
      have G := same_upd (o := .tup ([] : List V)) g2 _ _ (upd_same (H := H2) (a := e1) (o := .tup ((["a"] : List Str).map V.str)))
      refine ⟨e1, e2, ["a"], [], rfl, SqT.of G, ⟨[], upd_same, by simp [AtL]⟩, (fun b hb => by cases hb), by decide, fun b hb H9 s9 => ?_⟩
      cases b with
      | true => exact absurd rfl (hb.mp rfl).1
      | false => exact ⟨_, _, rfl, rfl, k _⟩
end
end OS

namespace OS
open PySem PySem.Spec PyProof.Rows L2
/-- a written tuple of texts -/
structure TupObj (o : Obj) (xs : List Str) : Prop where
  ex : ∃ (its : Array Value) (n : Nat), o.cls = .type "tuple" ∧ o.data = .seq its n ∧ its.size ≤ sizeLine ∧ Vals (xs.map V.str) its.toList
theorem TupObj.seq {K : PySem.W.Frag} {H : Hp} {p : Addr} {o : Obj} {xs : List Str} (v : TupObj o xs) (y : K.lookup p = some o) : SqT K H p (xs.map V.str) := by
  obtain ⟨its, n, h1, h2, h3, h4⟩ := v.ex
  exact .inr ⟨o, its, n, y, h1, h2, h3, h4⟩
/-- the entries of the written dict of forms -/
def FEnts (K : PySem.W.Frag) : List DictEntry → List (Str × List Str) → Prop
  | [], [] => True
  | e :: r, p :: q => (∃ t, e.key = .str p.1 t) ∧ (∃ a o, e.val = .ref a ∧ K.lookup a = some o ∧ TupObj o p.2) ∧ FEnts K r q
  | _, _ => False
theorem isStr_str (x z : Str) (t : Tok) : (Value.str x t).isStr z = decide (x = z) := by
  show _ = _
  by_cases h : x = z
  · rw [decide_eq_true h, h]
    exact beq_self_eq_true z
  · rw [decide_eq_false h]
    exact beq_eq_false_iff_ne.mpr h
theorem FEnts.find {K : PySem.W.Frag} (z : Str) : ∀ {es : List DictEntry} {fs : List (Str × List Str)}, FEnts K es fs →
    (es.any (·.refKey) = false) ∧ ((fs.find? fun p => decide (p.1 = z)) = none → es.find? (·.key.isStr z) = none) ∧ ∀ p, (fs.find? fun p => decide (p.1 = z)) = some p → ∃ e a o, es.find? (·.key.isStr z) = some e ∧ e.val = .ref a ∧ K.lookup a = some o ∧ TupObj o p.2
  | [], [], _ => ⟨rfl, fun _ => rfl, fun p h => by cases h⟩
  | e :: r, p :: q, h => by
    obtain ⟨⟨t, hk⟩, ⟨a, o, h1, h2, h3⟩, hr⟩ := h
    obtain ⟨i1, i2, i3⟩ := FEnts.find z hr
    have hs : e.key.isStr z = decide (p.1 = z) := by rw [hk]; exact isStr_str _ _ _
    refine ⟨?_, ?_, ?_⟩
    · rw [List.any_cons, i1, Bool.or_false]
      unfold DictEntry.refKey
      rw [hk]
    · intro hn
      rw [List.find?_cons] at hn ⊢
      rw [hs]
      cases c : decide (p.1 = z) with
      | true => rw [c] at hn; cases hn
      | false => rw [c] at hn; exact i2 hn
    · intro x hx
      rw [List.find?_cons] at hx ⊢
      rw [hs]
      cases c : decide (p.1 = z) with
      | true =>
        rw [c] at hx
        cases hx
        exact ⟨e, a, o, rfl, h1, h2, h3⟩
      | false => rw [c] at hx; exact i3 x hx
theorem forms_ns {K : PySem.W.Frag} {d : Addr} {es : Array DictEntry} {n : Nat} (y : K.lookup d = some ⟨.type "dict", none, .dict es n, #[]⟩) (f : FEnts K es.toList forms) :
    (∀ z, formOf z = none → PySem.W.nsIn K d z = some none) ∧ ∀ z ss, formOf z = some ss → ∃ p, PySem.W.nsIn K d z = some (some (.ref p)) ∧ ∀ H, SqT K H p (ss.map V.str) := by
  refine ⟨fun z hz => ?_, fun z ss hz => ?_⟩
  · obtain ⟨i1, i2, _⟩ := f.find z
    unfold formOf at hz
    have hz : (forms.find? fun p => decide (p.1 = z)) = none := by
      cases e : forms.find? fun p => decide (p.1 = z) with
      | none => rfl
      | some x => rw [e] at hz; cases hz
    unfold PySem.W.nsIn
    rw [y]
    dsimp only
    rw [i2 hz]
    dsimp only
    rw [i1]
    rfl
  · obtain ⟨_, _, i3⟩ := f.find z
    unfold formOf at hz
    cases e : forms.find? fun p => decide (p.1 = z) with
    | none => rw [e] at hz; cases hz
    | some x =>
      rw [e] at hz
      cases hz
      obtain ⟨en, a, o, h1, h2, h3, h4⟩ := i3 x e
      refine ⟨a, ?_, fun H => h4.seq h3⟩
      unfold PySem.W.nsIn
      rw [y]
      dsimp only
      rw [h1]
      dsimp only
      rw [h2]
theorem fe_cons {K : PySem.W.Frag} {e : DictEntry} {r : List DictEntry} {k : Str} {ss : List Str} {q : List (Str × List Str)} {t : Tok} {a : Addr} {o : Obj} (h1 : e.key = .str k t) (h2 : e.val = .ref a) (h3 : K.lookup a = some o) (h4 : TupObj o ss) (h5 : FEnts K r q) : FEnts K (e :: r) ((k, ss) :: q) :=
  ⟨⟨t, h1⟩, ⟨a, o, h2, h3, h4⟩, h5⟩
theorem fe_nil {K : PySem.W.Frag} : FEnts K [] [] := trivial
/-- a written dict with texts as keys -/
def SEnts : List DictEntry → List Str → Prop
  | [], [] => True
  | e :: r, p :: q => (∃ t, e.key = .str p t) ∧ SEnts r q
  | _, _ => False
theorem SEnts.find (z : Str) : ∀ {es : List DictEntry} {ks : List Str}, SEnts es ks → es.any (·.refKey) = false ∧ (z ∉ ks → es.find? (·.key.isStr z) = none) ∧ (z ∈ ks → ∃ e, es.find? (·.key.isStr z) = some e)
  | [], [], _ => ⟨rfl, fun _ => rfl, fun h => by cases h⟩
  | e :: r, p :: q, h => by
    obtain ⟨⟨t, hk⟩, hr⟩ := h
    obtain ⟨i1, i2, i3⟩ := SEnts.find z hr
    have hs : e.key.isStr z = decide (p = z) := by rw [hk]; exact isStr_str _ _ _
    refine ⟨?_, fun hn => ?_, fun hm => ?_⟩
    · rw [List.any_cons, i1, Bool.or_false]
      unfold DictEntry.refKey
      rw [hk]
    · rw [List.mem_cons, not_or] at hn
      rw [List.find?_cons, hs, decide_eq_false (fun q => hn.1 q.symm)]
      exact i2 hn.2
    · rw [List.find?_cons, hs]
      by_cases c : p = z
      · rw [decide_eq_true c]
        exact ⟨e, rfl⟩
      · rw [decide_eq_false c]
        rcases List.mem_cons.mp hm with q | q
        · exact absurd q.symm c
        · exact i3 q
theorem signs_ns {K : PySem.W.Frag} {d : Addr} {es : Array DictEntry} {n : Nat} (y : K.lookup d = some ⟨.type "dict", none, .dict es n, #[]⟩) (f : SEnts es.toList signW) :
    (∀ z, z ∉ signW → PySem.W.nsIn K d z = some none) ∧ ∀ z, z ∈ signW → ∃ v, PySem.W.nsIn K d z = some (some v) := by
  refine ⟨fun z hz => ?_, fun z hz => ?_⟩
  · obtain ⟨i1, i2, _⟩ := f.find z
    unfold PySem.W.nsIn
    rw [y]
    dsimp only
    rw [i2 hz]
    dsimp only
    rw [i1]
    rfl
  · obtain ⟨_, _, i3⟩ := f.find z
    obtain ⟨e, he⟩ := i3 hz
    refine ⟨e.val, ?_⟩
    unfold PySem.W.nsIn
    rw [y]
    dsimp only
    rw [he]
theorem se_cons {e : DictEntry} {r : List DictEntry} {k : Str} {q : List Str} {t : Tok} (h1 : e.key = .str k t) (h5 : SEnts r q) : SEnts (e :: r) (k :: q) := ⟨⟨t, h1⟩, h5⟩
theorem se_nil : SEnts [] [] := trivial
end OS

set_option maxHeartbeats 4000000
namespace OS
open PySem PySem.Spec PyProof.Rows L2
theorem all_mk {l : PySem.W.OpenLaw} {w : World} {K : PySem.W.Frag} {h : Heap} {mg : Str → Option Value} {fa : Addr} (X : K.In h) (G : h.Ns mainGlobals mg) (hfa : mg "law" = some (.ref fa))
    {f_is_number : Addr} {od_is_number an_is_number : Option Addr} {sl_is_number : Array (Option Value)} {oc_is_number kV_is_number dc_is_number pm_is_number cd_is_number ct_is_number : Value}
    {f_is_choice : Addr} {od_is_choice an_is_choice : Option Addr} {sl_is_choice : Array (Option Value)} {oc_is_choice kV_is_choice dc_is_choice pm_is_choice cd_is_choice ct_is_choice : Value}
    {f_are_choices : Addr} {od_are_choices an_are_choices : Option Addr} {sl_are_choices : Array (Option Value)} {oc_are_choices kV_are_choices dc_are_choices pm_are_choices cd_are_choices ct_are_choices : Value}
    {f_is_part : Addr} {od_is_part an_is_part : Option Addr} {sl_is_part : Array (Option Value)} {oc_is_part kV_is_part dc_is_part pm_is_part cd_is_part ct_is_part : Value}
    {f_is_instruction : Addr} {od_is_instruction an_is_instruction : Option Addr} {sl_is_instruction : Array (Option Value)} {oc_is_instruction kV_is_instruction dc_is_instruction pm_is_instruction cd_is_instruction ct_is_instruction : Value}
    {f_goals_behind : Addr} {od_goals_behind an_goals_behind : Option Addr} {sl_goals_behind : Array (Option Value)} {oc_goals_behind kV_goals_behind dc_goals_behind pm_goals_behind cd_goals_behind ct_goals_behind : Value}
    {f_quiet_goals : Addr} {od_quiet_goals an_quiet_goals : Option Addr} {sl_quiet_goals : Array (Option Value)} {oc_quiet_goals kV_quiet_goals dc_quiet_goals pm_quiet_goals cd_quiet_goals ct_quiet_goals : Value}
    {f_height_behind : Addr} {od_height_behind an_height_behind : Option Addr} {sl_height_behind : Array (Option Value)} {oc_height_behind kV_height_behind dc_height_behind pm_height_behind cd_height_behind ct_height_behind : Value}
    {f_reached_heights : Addr} {od_reached_heights an_reached_heights : Option Addr} {sl_reached_heights : Array (Option Value)} {oc_reached_heights kV_reached_heights dc_reached_heights pm_reached_heights cd_reached_heights ct_reached_heights : Value}
    {f_has_quiet_circle : Addr} {od_has_quiet_circle an_has_quiet_circle : Option Addr} {sl_has_quiet_circle : Array (Option Value)} {oc_has_quiet_circle kV_has_quiet_circle dc_has_quiet_circle pm_has_quiet_circle cd_has_quiet_circle ct_has_quiet_circle : Value}
    {f_is_sound : Addr} {od_is_sound an_is_sound : Option Addr} {sl_is_sound : Array (Option Value)} {oc_is_sound kV_is_sound dc_is_sound pm_is_sound cd_is_sound ct_is_sound : Value}
    {f__law_tape : Addr} {od__law_tape an__law_tape : Option Addr} {sl__law_tape : Array (Option Value)} {oc__law_tape kV__law_tape dc__law_tape pm__law_tape cd__law_tape ct__law_tape : Value}
    {f__law_take : Addr} {od__law_take an__law_take : Option Addr} {sl__law_take : Array (Option Value)} {oc__law_take kV__law_take dc__law_take pm__law_take cd__law_take ct__law_take : Value}
    {f__law_is_integer : Addr} {od__law_is_integer an__law_is_integer : Option Addr} {sl__law_is_integer : Array (Option Value)} {oc__law_is_integer kV__law_is_integer dc__law_is_integer pm__law_is_integer cd__law_is_integer ct__law_is_integer : Value}
    {f__law_same_items : Addr} {od__law_same_items an__law_same_items : Option Addr} {sl__law_same_items : Array (Option Value)} {oc__law_same_items kV__law_same_items dc__law_same_items pm__law_same_items cd__law_same_items ct__law_same_items : Value}
    {f__law_same : Addr} {od__law_same an__law_same : Option Addr} {sl__law_same : Array (Option Value)} {oc__law_same kV__law_same dc__law_same pm__law_same cd__law_same ct__law_same : Value}
    {f__law_shape_ok : Addr} {od__law_shape_ok an__law_shape_ok : Option Addr} {sl__law_shape_ok : Array (Option Value)} {oc__law_shape_ok kV__law_shape_ok dc__law_shape_ok pm__law_shape_ok cd__law_shape_ok ct__law_shape_ok : Value}
    {f__law_choices_ok : Addr} {od__law_choices_ok an__law_choices_ok : Option Addr} {sl__law_choices_ok : Array (Option Value)} {oc__law_choices_ok kV__law_choices_ok dc__law_choices_ok pm__law_choices_ok cd__law_choices_ok ct__law_choices_ok : Value}
    {f__law_moves : Addr} {od__law_moves an__law_moves : Option Addr} {sl__law_moves : Array (Option Value)} {oc__law_moves kV__law_moves dc__law_moves pm__law_moves cd__law_moves ct__law_moves : Value}
    {f__law_sound : Addr} {od__law_sound an__law_sound : Option Addr} {sl__law_sound : Array (Option Value)} {oc__law_sound kV__law_sound dc__law_sound pm__law_sound cd__law_sound ct__law_sound : Value}
    {f__law_instruction : Addr} {od__law_instruction an__law_instruction : Option Addr} {sl__law_instruction : Array (Option Value)} {oc__law_instruction kV__law_instruction dc__law_instruction pm__law_instruction cd__law_instruction ct__law_instruction : Value}
    {f__law_pattern : Addr} {od__law_pattern an__law_pattern : Option Addr} {sl__law_pattern : Array (Option Value)} {oc__law_pattern kV__law_pattern dc__law_pattern pm__law_pattern cd__law_pattern ct__law_pattern : Value}
    {f_law : Addr} {od_law an_law : Option Addr} {sl_law : Array (Option Value)} {oc_law kV_law dc_law pm_law cd_law ct_law : Value}
    {t_MODULUS : Tok}
    {t_MOST_HEIGHT : Tok}
    {p_ANSWERS : Addr} {o_ANSWERS : Obj}
    {d_FORMS : Addr} {es_FORMS : Array DictEntry} {n_FORMS : Nat}
    {d_SIGNS : Addr} {es_SIGNS : Array DictEntry} {n_SIGNS : Nat}
    (a_is_number : PySem.W.nsIn K mainGlobals "is_number" = some (some (.ref f_is_number)))
    (l_is_number : K.lookup f_is_number = some ⟨oc_is_number, od_is_number, .func (PySem.W.fnOf "is_number" "is_number" (defArgs s_is_number) (defBody s_is_number) (defScope s_is_number) .none kV_is_number dc_is_number pm_is_number an_is_number cd_is_number ct_is_number), sl_is_number⟩) (c_is_number : PySem.W.codeIn K cd_is_number "is_number" = true) (k_is_number : PySem.W.keepIn K (.ref f_is_number) = true)
    (a_is_choice : PySem.W.nsIn K mainGlobals "is_choice" = some (some (.ref f_is_choice)))
    (l_is_choice : K.lookup f_is_choice = some ⟨oc_is_choice, od_is_choice, .func (PySem.W.fnOf "is_choice" "is_choice" (defArgs s_is_choice) (defBody s_is_choice) (defScope s_is_choice) .none kV_is_choice dc_is_choice pm_is_choice an_is_choice cd_is_choice ct_is_choice), sl_is_choice⟩) (c_is_choice : PySem.W.codeIn K cd_is_choice "is_choice" = true) (k_is_choice : PySem.W.keepIn K (.ref f_is_choice) = true)
    (a_are_choices : PySem.W.nsIn K mainGlobals "are_choices" = some (some (.ref f_are_choices)))
    (l_are_choices : K.lookup f_are_choices = some ⟨oc_are_choices, od_are_choices, .func (PySem.W.fnOf "are_choices" "are_choices" (defArgs s_are_choices) (defBody s_are_choices) (defScope s_are_choices) .none kV_are_choices dc_are_choices pm_are_choices an_are_choices cd_are_choices ct_are_choices), sl_are_choices⟩) (c_are_choices : PySem.W.codeIn K cd_are_choices "are_choices" = true) (k_are_choices : PySem.W.keepIn K (.ref f_are_choices) = true)
    (a_is_part : PySem.W.nsIn K mainGlobals "is_part" = some (some (.ref f_is_part)))
    (l_is_part : K.lookup f_is_part = some ⟨oc_is_part, od_is_part, .func (PySem.W.fnOf "is_part" "is_part" (defArgs s_is_part) (defBody s_is_part) (defScope s_is_part) .none kV_is_part dc_is_part pm_is_part an_is_part cd_is_part ct_is_part), sl_is_part⟩) (c_is_part : PySem.W.codeIn K cd_is_part "is_part" = true) (k_is_part : PySem.W.keepIn K (.ref f_is_part) = true)
    (a_is_instruction : PySem.W.nsIn K mainGlobals "is_instruction" = some (some (.ref f_is_instruction)))
    (l_is_instruction : K.lookup f_is_instruction = some ⟨oc_is_instruction, od_is_instruction, .func (PySem.W.fnOf "is_instruction" "is_instruction" (defArgs s_is_instruction) (defBody s_is_instruction) (defScope s_is_instruction) .none kV_is_instruction dc_is_instruction pm_is_instruction an_is_instruction cd_is_instruction ct_is_instruction), sl_is_instruction⟩) (c_is_instruction : PySem.W.codeIn K cd_is_instruction "is_instruction" = true) (k_is_instruction : PySem.W.keepIn K (.ref f_is_instruction) = true)
    (a_goals_behind : PySem.W.nsIn K mainGlobals "goals_behind" = some (some (.ref f_goals_behind)))
    (l_goals_behind : K.lookup f_goals_behind = some ⟨oc_goals_behind, od_goals_behind, .func (PySem.W.fnOf "goals_behind" "goals_behind" (defArgs s_goals_behind) (defBody s_goals_behind) (defScope s_goals_behind) .none kV_goals_behind dc_goals_behind pm_goals_behind an_goals_behind cd_goals_behind ct_goals_behind), sl_goals_behind⟩) (c_goals_behind : PySem.W.codeIn K cd_goals_behind "goals_behind" = true) (k_goals_behind : PySem.W.keepIn K (.ref f_goals_behind) = true)
    (a_quiet_goals : PySem.W.nsIn K mainGlobals "quiet_goals" = some (some (.ref f_quiet_goals)))
    (l_quiet_goals : K.lookup f_quiet_goals = some ⟨oc_quiet_goals, od_quiet_goals, .func (PySem.W.fnOf "quiet_goals" "quiet_goals" (defArgs s_quiet_goals) (defBody s_quiet_goals) (defScope s_quiet_goals) .none kV_quiet_goals dc_quiet_goals pm_quiet_goals an_quiet_goals cd_quiet_goals ct_quiet_goals), sl_quiet_goals⟩) (c_quiet_goals : PySem.W.codeIn K cd_quiet_goals "quiet_goals" = true) (k_quiet_goals : PySem.W.keepIn K (.ref f_quiet_goals) = true)
    (a_height_behind : PySem.W.nsIn K mainGlobals "height_behind" = some (some (.ref f_height_behind)))
    (l_height_behind : K.lookup f_height_behind = some ⟨oc_height_behind, od_height_behind, .func (PySem.W.fnOf "height_behind" "height_behind" (defArgs s_height_behind) (defBody s_height_behind) (defScope s_height_behind) .none kV_height_behind dc_height_behind pm_height_behind an_height_behind cd_height_behind ct_height_behind), sl_height_behind⟩) (c_height_behind : PySem.W.codeIn K cd_height_behind "height_behind" = true) (k_height_behind : PySem.W.keepIn K (.ref f_height_behind) = true)
    (a_reached_heights : PySem.W.nsIn K mainGlobals "reached_heights" = some (some (.ref f_reached_heights)))
    (l_reached_heights : K.lookup f_reached_heights = some ⟨oc_reached_heights, od_reached_heights, .func (PySem.W.fnOf "reached_heights" "reached_heights" (defArgs s_reached_heights) (defBody s_reached_heights) (defScope s_reached_heights) .none kV_reached_heights dc_reached_heights pm_reached_heights an_reached_heights cd_reached_heights ct_reached_heights), sl_reached_heights⟩) (c_reached_heights : PySem.W.codeIn K cd_reached_heights "reached_heights" = true) (k_reached_heights : PySem.W.keepIn K (.ref f_reached_heights) = true)
    (a_has_quiet_circle : PySem.W.nsIn K mainGlobals "has_quiet_circle" = some (some (.ref f_has_quiet_circle)))
    (l_has_quiet_circle : K.lookup f_has_quiet_circle = some ⟨oc_has_quiet_circle, od_has_quiet_circle, .func (PySem.W.fnOf "has_quiet_circle" "has_quiet_circle" (defArgs s_has_quiet_circle) (defBody s_has_quiet_circle) (defScope s_has_quiet_circle) .none kV_has_quiet_circle dc_has_quiet_circle pm_has_quiet_circle an_has_quiet_circle cd_has_quiet_circle ct_has_quiet_circle), sl_has_quiet_circle⟩) (c_has_quiet_circle : PySem.W.codeIn K cd_has_quiet_circle "has_quiet_circle" = true) (k_has_quiet_circle : PySem.W.keepIn K (.ref f_has_quiet_circle) = true)
    (a_is_sound : PySem.W.nsIn K mainGlobals "is_sound" = some (some (.ref f_is_sound)))
    (l_is_sound : K.lookup f_is_sound = some ⟨oc_is_sound, od_is_sound, .func (PySem.W.fnOf "is_sound" "is_sound" (defArgs s_is_sound) (defBody s_is_sound) (defScope s_is_sound) .none kV_is_sound dc_is_sound pm_is_sound an_is_sound cd_is_sound ct_is_sound), sl_is_sound⟩) (c_is_sound : PySem.W.codeIn K cd_is_sound "is_sound" = true) (k_is_sound : PySem.W.keepIn K (.ref f_is_sound) = true)
    (a__law_tape : PySem.W.nsIn K mainGlobals "_law_tape" = some (some (.ref f__law_tape)))
    (l__law_tape : K.lookup f__law_tape = some ⟨oc__law_tape, od__law_tape, .func (PySem.W.fnOf "_law_tape" "_law_tape" (defArgs s__law_tape) (defBody s__law_tape) (defScope s__law_tape) .none kV__law_tape dc__law_tape pm__law_tape an__law_tape cd__law_tape ct__law_tape), sl__law_tape⟩) (c__law_tape : PySem.W.codeIn K cd__law_tape "_law_tape" = true) (k__law_tape : PySem.W.keepIn K (.ref f__law_tape) = true)
    (a__law_take : PySem.W.nsIn K mainGlobals "_law_take" = some (some (.ref f__law_take)))
    (l__law_take : K.lookup f__law_take = some ⟨oc__law_take, od__law_take, .func (PySem.W.fnOf "_law_take" "_law_take" (defArgs s__law_take) (defBody s__law_take) (defScope s__law_take) .none kV__law_take dc__law_take pm__law_take an__law_take cd__law_take ct__law_take), sl__law_take⟩) (c__law_take : PySem.W.codeIn K cd__law_take "_law_take" = true) (k__law_take : PySem.W.keepIn K (.ref f__law_take) = true)
    (a__law_is_integer : PySem.W.nsIn K mainGlobals "_law_is_integer" = some (some (.ref f__law_is_integer)))
    (l__law_is_integer : K.lookup f__law_is_integer = some ⟨oc__law_is_integer, od__law_is_integer, .func (PySem.W.fnOf "_law_is_integer" "_law_is_integer" (defArgs s__law_is_integer) (defBody s__law_is_integer) (defScope s__law_is_integer) .none kV__law_is_integer dc__law_is_integer pm__law_is_integer an__law_is_integer cd__law_is_integer ct__law_is_integer), sl__law_is_integer⟩) (c__law_is_integer : PySem.W.codeIn K cd__law_is_integer "_law_is_integer" = true) (k__law_is_integer : PySem.W.keepIn K (.ref f__law_is_integer) = true)
    (a__law_same_items : PySem.W.nsIn K mainGlobals "_law_same_items" = some (some (.ref f__law_same_items)))
    (l__law_same_items : K.lookup f__law_same_items = some ⟨oc__law_same_items, od__law_same_items, .func (PySem.W.fnOf "_law_same_items" "_law_same_items" (defArgs s__law_same_items) (defBody s__law_same_items) (defScope s__law_same_items) .none kV__law_same_items dc__law_same_items pm__law_same_items an__law_same_items cd__law_same_items ct__law_same_items), sl__law_same_items⟩) (c__law_same_items : PySem.W.codeIn K cd__law_same_items "_law_same_items" = true) (k__law_same_items : PySem.W.keepIn K (.ref f__law_same_items) = true)
    (a__law_same : PySem.W.nsIn K mainGlobals "_law_same" = some (some (.ref f__law_same)))
    (l__law_same : K.lookup f__law_same = some ⟨oc__law_same, od__law_same, .func (PySem.W.fnOf "_law_same" "_law_same" (defArgs s__law_same) (defBody s__law_same) (defScope s__law_same) .none kV__law_same dc__law_same pm__law_same an__law_same cd__law_same ct__law_same), sl__law_same⟩) (c__law_same : PySem.W.codeIn K cd__law_same "_law_same" = true) (k__law_same : PySem.W.keepIn K (.ref f__law_same) = true)
    (a__law_shape_ok : PySem.W.nsIn K mainGlobals "_law_shape_ok" = some (some (.ref f__law_shape_ok)))
    (l__law_shape_ok : K.lookup f__law_shape_ok = some ⟨oc__law_shape_ok, od__law_shape_ok, .func (PySem.W.fnOf "_law_shape_ok" "_law_shape_ok" (defArgs s__law_shape_ok) (defBody s__law_shape_ok) (defScope s__law_shape_ok) .none kV__law_shape_ok dc__law_shape_ok pm__law_shape_ok an__law_shape_ok cd__law_shape_ok ct__law_shape_ok), sl__law_shape_ok⟩) (c__law_shape_ok : PySem.W.codeIn K cd__law_shape_ok "_law_shape_ok" = true) (k__law_shape_ok : PySem.W.keepIn K (.ref f__law_shape_ok) = true)
    (a__law_choices_ok : PySem.W.nsIn K mainGlobals "_law_choices_ok" = some (some (.ref f__law_choices_ok)))
    (l__law_choices_ok : K.lookup f__law_choices_ok = some ⟨oc__law_choices_ok, od__law_choices_ok, .func (PySem.W.fnOf "_law_choices_ok" "_law_choices_ok" (defArgs s__law_choices_ok) (defBody s__law_choices_ok) (defScope s__law_choices_ok) .none kV__law_choices_ok dc__law_choices_ok pm__law_choices_ok an__law_choices_ok cd__law_choices_ok ct__law_choices_ok), sl__law_choices_ok⟩) (c__law_choices_ok : PySem.W.codeIn K cd__law_choices_ok "_law_choices_ok" = true) (k__law_choices_ok : PySem.W.keepIn K (.ref f__law_choices_ok) = true)
    (a__law_moves : PySem.W.nsIn K mainGlobals "_law_moves" = some (some (.ref f__law_moves)))
    (l__law_moves : K.lookup f__law_moves = some ⟨oc__law_moves, od__law_moves, .func (PySem.W.fnOf "_law_moves" "_law_moves" (defArgs s__law_moves) (defBody s__law_moves) (defScope s__law_moves) .none kV__law_moves dc__law_moves pm__law_moves an__law_moves cd__law_moves ct__law_moves), sl__law_moves⟩) (c__law_moves : PySem.W.codeIn K cd__law_moves "_law_moves" = true) (k__law_moves : PySem.W.keepIn K (.ref f__law_moves) = true)
    (a__law_sound : PySem.W.nsIn K mainGlobals "_law_sound" = some (some (.ref f__law_sound)))
    (l__law_sound : K.lookup f__law_sound = some ⟨oc__law_sound, od__law_sound, .func (PySem.W.fnOf "_law_sound" "_law_sound" (defArgs s__law_sound) (defBody s__law_sound) (defScope s__law_sound) .none kV__law_sound dc__law_sound pm__law_sound an__law_sound cd__law_sound ct__law_sound), sl__law_sound⟩) (c__law_sound : PySem.W.codeIn K cd__law_sound "_law_sound" = true) (k__law_sound : PySem.W.keepIn K (.ref f__law_sound) = true)
    (a__law_instruction : PySem.W.nsIn K mainGlobals "_law_instruction" = some (some (.ref f__law_instruction)))
    (l__law_instruction : K.lookup f__law_instruction = some ⟨oc__law_instruction, od__law_instruction, .func (PySem.W.fnOf "_law_instruction" "_law_instruction" (defArgs s__law_instruction) (defBody s__law_instruction) (defScope s__law_instruction) .none kV__law_instruction dc__law_instruction pm__law_instruction an__law_instruction cd__law_instruction ct__law_instruction), sl__law_instruction⟩) (c__law_instruction : PySem.W.codeIn K cd__law_instruction "_law_instruction" = true) (k__law_instruction : PySem.W.keepIn K (.ref f__law_instruction) = true)
    (a__law_pattern : PySem.W.nsIn K mainGlobals "_law_pattern" = some (some (.ref f__law_pattern)))
    (l__law_pattern : K.lookup f__law_pattern = some ⟨oc__law_pattern, od__law_pattern, .func (PySem.W.fnOf "_law_pattern" "_law_pattern" (defArgs s__law_pattern) (defBody s__law_pattern) (defScope s__law_pattern) .none kV__law_pattern dc__law_pattern pm__law_pattern an__law_pattern cd__law_pattern ct__law_pattern), sl__law_pattern⟩) (c__law_pattern : PySem.W.codeIn K cd__law_pattern "_law_pattern" = true) (k__law_pattern : PySem.W.keepIn K (.ref f__law_pattern) = true)
    (a_law : PySem.W.nsIn K mainGlobals "law" = some (some (.ref f_law)))
    (l_law : K.lookup f_law = some ⟨oc_law, od_law, .func (PySem.W.fnOf "law" "law" (defArgs s_law) (defBody s_law) (defScope s_law) .none kV_law dc_law pm_law an_law cd_law ct_law), sl_law⟩) (c_law : PySem.W.codeIn K cd_law "law" = true) (k_law : PySem.W.keepIn K (.ref f_law) = true)
    (x_MODULUS : PySem.W.nsIn K mainGlobals "MODULUS" = some (some (.int 4294967296 t_MODULUS)))
    (x_MOST_HEIGHT : PySem.W.nsIn K mainGlobals "MOST_HEIGHT" = some (some (.int 40 t_MOST_HEIGHT)))
    (x_ANSWERS : PySem.W.nsIn K mainGlobals "ANSWERS" = some (some (.ref p_ANSWERS))) (y_ANSWERS : K.lookup p_ANSWERS = some o_ANSWERS) (v_ANSWERS : TupObj o_ANSWERS ansL)
    (z_len : PySem.W.nsIn K mainGlobals "len" = some none)
    (z_abs : PySem.W.nsIn K mainGlobals "abs" = some none)
    (z_int : PySem.W.nsIn K mainGlobals "int" = some none)
    (z_bool : PySem.W.nsIn K mainGlobals "bool" = some none)
    (z_str : PySem.W.nsIn K mainGlobals "str" = some none)
    (z_list : PySem.W.nsIn K mainGlobals "list" = some none)
    (z_tuple : PySem.W.nsIn K mainGlobals "tuple" = some none)
    (z_dict : PySem.W.nsIn K mainGlobals "dict" = some none)
    (z_isinstance : PySem.W.nsIn K mainGlobals "isinstance" = some none)
    (z_range : PySem.W.nsIn K mainGlobals "range" = some none)
    (z_zip : PySem.W.nsIn K mainGlobals "zip" = some none)
    (z_all : PySem.W.nsIn K mainGlobals "all" = some none)
    (z_sorted : PySem.W.nsIn K mainGlobals "sorted" = some none)
    (x_FORMS : PySem.W.nsIn K mainGlobals "FORMS" = some (some (.ref d_FORMS))) (y_FORMS : K.lookup d_FORMS = some ⟨.type "dict", none, .dict es_FORMS n_FORMS, #[]⟩) (g_DFORMS : PySem.W.KeysLit w.params es_FORMS.toList) (f_DFORMS : FEnts K es_FORMS.toList forms) (s_DFORMS : (d_FORMS == sysModules) = false)
    (x_SIGNS : PySem.W.nsIn K mainGlobals "SIGNS" = some (some (.ref d_SIGNS))) (y_SIGNS : K.lookup d_SIGNS = some ⟨.type "dict", none, .dict es_SIGNS n_SIGNS, #[]⟩) (g_DSIGNS : PySem.W.KeysLit w.params es_SIGNS.toList) (f_DSIGNS : SEnts es_SIGNS.toList signW) (s_DSIGNS : (d_SIGNS == sysModules) = false) :
    ∃ fd : FuncData, (∀ (s : Shared) (v : Value), BindsTo s fd ⟨[v], []⟩ [("script", v)]) ∧ ∀ base : Heap, K.In base → base.Ns mainGlobals mg → FnOk l.prog w K mg base CX0 11 fa fd ["script"] (spLaw K) := by
  have e := hfa.symm.trans (PySem.W.mg_of X G a_law)
  cases e
  have F_is_number := fun_mk (st := s_is_number) l_is_number c_is_number k_is_number
  have b_is_number := F_is_number.binds (ps := ["part", "bound"]) fun _ _ _ _ _ _ us hl => match us, hl with | [_, _], _ => rfl
  have m_is_number := PySem.W.mg_of X G a_is_number
  have F_is_choice := fun_mk (st := s_is_choice) l_is_choice c_is_choice k_is_choice
  have b_is_choice := F_is_choice.binds (ps := ["choice", "many"]) fun _ _ _ _ _ _ us hl => match us, hl with | [_, _], _ => rfl
  have m_is_choice := PySem.W.mg_of X G a_is_choice
  have F_are_choices := fun_mk (st := s_are_choices) l_are_choices c_are_choices k_are_choices
  have b_are_choices := F_are_choices.binds (ps := ["part", "many"]) fun _ _ _ _ _ _ us hl => match us, hl with | [_, _], _ => rfl
  have m_are_choices := PySem.W.mg_of X G a_are_choices
  have F_is_part := fun_mk (st := s_is_part) l_is_part c_is_part k_is_part
  have b_is_part := F_is_part.binds (ps := ["sort", "part", "ends", "many"]) fun _ _ _ _ _ _ us hl => match us, hl with | [_, _, _, _], _ => rfl
  have m_is_part := PySem.W.mg_of X G a_is_part
  have F_is_instruction := fun_mk (st := s_is_instruction) l_is_instruction c_is_instruction k_is_instruction
  have b_is_instruction := F_is_instruction.binds (ps := ["instruction", "ends", "many"]) fun _ _ _ _ _ _ us hl => match us, hl with | [_, _, _], _ => rfl
  have m_is_instruction := PySem.W.mg_of X G a_is_instruction
  have F_goals_behind := fun_mk (st := s_goals_behind) l_goals_behind c_goals_behind k_goals_behind
  have b_goals_behind := F_goals_behind.binds (ps := ["code", "at"]) fun _ _ _ _ _ _ us hl => match us, hl with | [_, _], _ => rfl
  have m_goals_behind := PySem.W.mg_of X G a_goals_behind
  have F_quiet_goals := fun_mk (st := s_quiet_goals) l_quiet_goals c_quiet_goals k_quiet_goals
  have b_quiet_goals := F_quiet_goals.binds (ps := ["code", "at"]) fun _ _ _ _ _ _ us hl => match us, hl with | [_, _], _ => rfl
  have m_quiet_goals := PySem.W.mg_of X G a_quiet_goals
  have F_height_behind := fun_mk (st := s_height_behind) l_height_behind c_height_behind k_height_behind
  have b_height_behind := F_height_behind.binds (ps := ["word", "height"]) fun _ _ _ _ _ _ us hl => match us, hl with | [_, _], _ => rfl
  have m_height_behind := PySem.W.mg_of X G a_height_behind
  have F_reached_heights := fun_mk (st := s_reached_heights) l_reached_heights c_reached_heights k_reached_heights
  have b_reached_heights := F_reached_heights.binds (ps := ["code"]) fun _ _ _ _ _ _ us hl => match us, hl with | [_], _ => rfl
  have m_reached_heights := PySem.W.mg_of X G a_reached_heights
  have F_has_quiet_circle := fun_mk (st := s_has_quiet_circle) l_has_quiet_circle c_has_quiet_circle k_has_quiet_circle
  have b_has_quiet_circle := F_has_quiet_circle.binds (ps := ["code", "reached"]) fun _ _ _ _ _ _ us hl => match us, hl with | [_, _], _ => rfl
  have m_has_quiet_circle := PySem.W.mg_of X G a_has_quiet_circle
  have F_is_sound := fun_mk (st := s_is_sound) l_is_sound c_is_sound k_is_sound
  have b_is_sound := F_is_sound.binds (ps := ["ends", "code"]) fun _ _ _ _ _ _ us hl => match us, hl with | [_, _], _ => rfl
  have m_is_sound := PySem.W.mg_of X G a_is_sound
  have F__law_tape := fun_mk (st := s__law_tape) l__law_tape c__law_tape k__law_tape
  have b__law_tape := F__law_tape.binds (ps := ["script"]) fun _ _ _ _ _ _ us hl => match us, hl with | [_], _ => rfl
  have m__law_tape := PySem.W.mg_of X G a__law_tape
  have F__law_take := fun_mk (st := s__law_take) l__law_take c__law_take k__law_take
  have b__law_take := F__law_take.binds (ps := ["tape", "many"]) fun _ _ _ _ _ _ us hl => match us, hl with | [_, _], _ => rfl
  have m__law_take := PySem.W.mg_of X G a__law_take
  have F__law_is_integer := fun_mk (st := s__law_is_integer) l__law_is_integer c__law_is_integer k__law_is_integer
  have b__law_is_integer := F__law_is_integer.binds (ps := ["actual"]) fun _ _ _ _ _ _ us hl => match us, hl with | [_], _ => rfl
  have m__law_is_integer := PySem.W.mg_of X G a__law_is_integer
  have F__law_same_items := fun_mk (st := s__law_same_items) l__law_same_items c__law_same_items k__law_same_items
  have b__law_same_items := F__law_same_items.binds (ps := ["actual", "expected"]) fun _ _ _ _ _ _ us hl => match us, hl with | [_, _], _ => rfl
  have m__law_same_items := PySem.W.mg_of X G a__law_same_items
  have F__law_same := fun_mk (st := s__law_same) l__law_same c__law_same k__law_same
  have b__law_same := F__law_same.binds (ps := ["actual", "expected"]) fun _ _ _ _ _ _ us hl => match us, hl with | [_, _], _ => rfl
  have m__law_same := PySem.W.mg_of X G a__law_same
  have F__law_shape_ok := fun_mk (st := s__law_shape_ok) l__law_shape_ok c__law_shape_ok k__law_shape_ok
  have b__law_shape_ok := F__law_shape_ok.binds (ps := ["ends", "one", "size"]) fun _ _ _ _ _ _ us hl => match us, hl with | [_, _, _], _ => rfl
  have m__law_shape_ok := PySem.W.mg_of X G a__law_shape_ok
  have F__law_choices_ok := fun_mk (st := s__law_choices_ok) l__law_choices_ok c__law_choices_ok k__law_choices_ok
  have b__law_choices_ok := F__law_choices_ok.binds (ps := ["part", "size"]) fun _ _ _ _ _ _ us hl => match us, hl with | [_, _], _ => rfl
  have m__law_choices_ok := PySem.W.mg_of X G a__law_choices_ok
  have F__law_moves := fun_mk (st := s__law_moves) l__law_moves c__law_moves k__law_moves
  have b__law_moves := F__law_moves.binds (ps := ["code", "at"]) fun _ _ _ _ _ _ us hl => match us, hl with | [_, _], _ => rfl
  have m__law_moves := PySem.W.mg_of X G a__law_moves
  have F__law_sound := fun_mk (st := s__law_sound) l__law_sound c__law_sound k__law_sound
  have b__law_sound := F__law_sound.binds (ps := ["ends", "code"]) fun _ _ _ _ _ _ us hl => match us, hl with | [_, _], _ => rfl
  have m__law_sound := PySem.W.mg_of X G a__law_sound
  have F__law_instruction := fun_mk (st := s__law_instruction) l__law_instruction c__law_instruction k__law_instruction
  have b__law_instruction := F__law_instruction.binds (ps := ["tape", "many"]) fun _ _ _ _ _ _ us hl => match us, hl with | [_, _], _ => rfl
  have m__law_instruction := PySem.W.mg_of X G a__law_instruction
  have F__law_pattern := fun_mk (st := s__law_pattern) l__law_pattern c__law_pattern k__law_pattern
  have b__law_pattern := F__law_pattern.binds (ps := ["tape", "at", "many"]) fun _ _ _ _ _ _ us hl => match us, hl with | [_, _, _], _ => rfl
  have m__law_pattern := PySem.W.mg_of X G a__law_pattern
  have F_law := fun_mk (st := s_law) l_law c_law k_law
  have b_law := F_law.binds (ps := ["script"]) fun _ _ _ _ _ _ us hl => match us, hl with | [_], _ => rfl
  have m_law := PySem.W.mg_of X G a_law
  have X_MODULUS := PySem.W.mg_of X G x_MODULUS
  have X_MOST_HEIGHT := PySem.W.mg_of X G x_MOST_HEIGHT
  have X_ANSWERS := PySem.W.mg_of X G x_ANSWERS
  have X_FORMS := PySem.W.mg_of X G x_FORMS
  have X_SIGNS := PySem.W.mg_of X G x_SIGNS
  have Z_len := PySem.W.mg_none_of X G z_len
  have Z_abs := PySem.W.mg_none_of X G z_abs
  have Z_int := PySem.W.mg_none_of X G z_int
  have Z_bool := PySem.W.mg_none_of X G z_bool
  have Z_str := PySem.W.mg_none_of X G z_str
  have Z_list := PySem.W.mg_none_of X G z_list
  have Z_tuple := PySem.W.mg_none_of X G z_tuple
  have Z_dict := PySem.W.mg_none_of X G z_dict
  have Z_isinstance := PySem.W.mg_none_of X G z_isinstance
  have Z_range := PySem.W.mg_none_of X G z_range
  have Z_zip := PySem.W.mg_none_of X G z_zip
  have Z_all := PySem.W.mg_none_of X G z_all
  have Z_sorted := PySem.W.mg_none_of X G z_sorted

  have T : Txt K mg := ⟨Z_len, Z_abs, Z_int, Z_bool, Z_str, Z_list, Z_tuple, Z_dict, Z_isinstance, Z_range, Z_zip, Z_all, Z_sorted⟩
  have TC : CodTxt K w mg := ⟨⟨_, X_MODULUS⟩, ⟨_, X_MOST_HEIGHT⟩, ⟨_, X_ANSWERS, fun H => v_ANSWERS.seq y_ANSWERS⟩, ⟨_, _, _, X_FORMS, ⟨y_FORMS, g_DFORMS, s_DFORMS⟩, (forms_ns y_FORMS f_DFORMS).1, (forms_ns y_FORMS f_DFORMS).2⟩, ⟨_, _, _, X_SIGNS, ⟨y_SIGNS, g_DSIGNS, s_DSIGNS⟩, (signs_ns y_SIGNS f_DSIGNS).1, (signs_ns y_SIGNS f_DSIGNS).2⟩⟩
  refine ⟨PySem.W.fnOf "law" "law" (defArgs s_law) (defBody s_law) (defScope s_law) .none kV_law dc_law pm_law an_law cd_law ct_law, fun s v => .of_eq rfl, fun base _ _ => ?_⟩
  have C_is_number : Cal l.prog w K mg base 1 _ _ (spNum K) _ _ := ⟨ok_is_number F_is_number T, b_is_number, k_is_number, m_is_number⟩
  have C_is_choice : Cal l.prog w K mg base 2 _ _ (spChoice K) _ _ := ⟨ok_is_choice F_is_choice T C_is_number, b_is_choice, k_is_choice, m_is_choice⟩
  have C_are_choices : Cal l.prog w K mg base 3 _ _ (spChoices K) _ _ := ⟨ok_are_choices F_are_choices T C_is_choice, b_are_choices, k_are_choices, m_are_choices⟩
  have C_is_part : Cal l.prog w K mg base 4 _ _ (spPart K) _ _ := ⟨ok_is_part F_is_part T TC C_is_number C_are_choices, b_is_part, k_is_part, m_is_part⟩
  have C_is_instruction : Cal l.prog w K mg base 5 _ _ (spInst K) _ _ := ⟨ok_is_instruction F_is_instruction T TC C_is_part, b_is_instruction, k_is_instruction, m_is_instruction⟩
  have C_goals_behind : Cal l.prog w K mg base 1 _ _ (spGoals K goalsOf) _ _ := ⟨ok_goals_behind F_goals_behind T, b_goals_behind, k_goals_behind, m_goals_behind⟩
  have C_quiet_goals : Cal l.prog w K mg base 2 _ _ (spGoals K quietOf) _ _ := ⟨ok_quiet_goals F_quiet_goals T TC C_goals_behind, b_quiet_goals, k_quiet_goals, m_quiet_goals⟩
  have C_height_behind : Cal l.prog w K mg base 1 _ _ spHb _ _ := ⟨ok_height_behind F_height_behind T TC, b_height_behind, k_height_behind, m_height_behind⟩
  have C_reached_heights : Cal l.prog w K mg base 2 _ _ (spHeights K) _ _ := ⟨ok_reached_heights F_reached_heights T TC C_goals_behind C_height_behind, b_reached_heights, k_reached_heights, m_reached_heights⟩
  have C_has_quiet_circle : Cal l.prog w K mg base 3 _ _ (spCirc K) _ _ := ⟨ok_has_quiet_circle F_has_quiet_circle T C_quiet_goals, b_has_quiet_circle, k_has_quiet_circle, m_has_quiet_circle⟩
  have C_is_sound : Cal l.prog w K mg base 6 _ _ (spSound K) _ _ := ⟨ok_is_sound F_is_sound T C_is_instruction C_reached_heights C_has_quiet_circle, b_is_sound, k_is_sound, m_is_sound⟩
  have C__law_take : Cal l.prog w K mg base 1 _ _ spTake _ _ := ⟨ok_law_take F__law_take T, b__law_take, k__law_take, m__law_take⟩
  have C__law_tape : Cal l.prog w K mg base 1 _ _ (spTape K) _ _ := ⟨ok_law_tape F__law_tape T, b__law_tape, k__law_tape, m__law_tape⟩
  have C__law_moves : Cal l.prog w K mg base 1 _ _ (spMoves K) _ _ := ⟨ok_law_moves F__law_moves T, b__law_moves, k__law_moves, m__law_moves⟩
  have C__law_choices_ok : Cal l.prog w K mg base 1 _ _ (spLCh K) _ _ := ⟨ok_law_choices_ok F__law_choices_ok T, b__law_choices_ok, k__law_choices_ok, m__law_choices_ok⟩
  have C__law_shape_ok : Cal l.prog w K mg base 2 _ _ (spShape K) _ _ := ⟨ok_law_shape_ok F__law_shape_ok T C__law_choices_ok, b__law_shape_ok, k__law_shape_ok, m__law_shape_ok⟩
  have C__law_sound : Cal l.prog w K mg base 3 _ _ (spSound K) _ _ := ⟨ok_law_sound F__law_sound T C__law_shape_ok C__law_moves, b__law_sound, k__law_sound, m__law_sound⟩
  have C__law_instruction : Cal l.prog w K mg base 2 _ _ (spIn K) _ _ := ⟨ok_law_instruction F__law_instruction T C__law_take, b__law_instruction, k__law_instruction, m__law_instruction⟩
  have C__law_pattern : Cal l.prog w K mg base 3 _ _ (spPat K) _ _ := ⟨ok_law_pattern F__law_pattern T C__law_take C__law_instruction, b__law_pattern, k__law_pattern, m__law_pattern⟩
  have C__law_same : Cal l.prog w K mg base 10 _ _ (spSame K 5) _ _ := ⟨same_all T F__law_is_integer b__law_is_integer m__law_is_integer F__law_same_items b__law_same_items m__law_same_items F__law_same b__law_same m__law_same 5, b__law_same, k__law_same, m__law_same⟩
  exact ok_law F_law T C__law_take C__law_tape C__law_instruction C__law_pattern C_is_sound C__law_sound C__law_same
theorem walk {l : PySem.W.OpenLaw} {q : Program} {loose : List Str} {XP : (Str → Option Value) → Heap → Prop} {YP : World → Heap → Prop} {d : DefRec} {K : Params → PySem.W.Frag} (hn : l.most = some 63) (hdf : d.params.defaults = [])
    (hY : ∀ (w : World) (h : Heap), YP w h → (K w.params).In h)
    (F : ∀ (w : World) (mg : Str → Option Value) (fa : Addr) (h : Heap), (K w.params).In h → h.Ns mainGlobals mg → mg d.name = some (.ref fa) →
      ∃ fd : FuncData, (∀ (s : Shared) (u : Value), BindsTo s fd ⟨[u], []⟩ [("script", u)]) ∧ ∀ base : Heap, (K w.params).In base → base.Ns mainGlobals mg → FnOk l.prog w (K w.params) mg base CX0 11 fa fd ["script"] (spLaw (K w.params))) :
    PySem.W.WalkO q loose XP YP l.row.toRowW d [] (fun f vs => PySem.call f vs) :=
  L2.walk_of (n := 63) (k := 11) (x := "script") (CX := fun _ => CX0) (sp := fun w => spLaw (K w.params)) hn (by decide) hdf ⟨rfl, by decide, by decide⟩ hY F (fun _ _ a ns hl _ hS => ⟨a, ns, rfl, hS, hl, fun _ => rfl⟩) fun _ _ _ _ _ z => z
end OS

open PySem PySem.W PyProof.Rows in
set_option maxRecDepth 100000 in
set_option maxHeartbeats 0 in
theorem PySem.Challenge.cw_onescore_k24_sound_code_holds : PySem.Challenge.rw_onescore_k24_sound_code.Holds := by
  w_on; o_law; k_head; (case hw => w_witness2)
  k_fill
  refine OS.walk (l := PySem.Challenge.rw_onescore_k24_sound_code) rfl rfl (fun w h Y => PySem.W.kIn_of Y) ?F
  case F =>
    intro w mg fa h KX G hmg
    refine' OS.all_mk KX G hmg ?a_is_number ?l_is_number ?c_is_number ?k_is_number ?a_is_choice ?l_is_choice ?c_is_choice ?k_is_choice ?a_are_choices ?l_are_choices ?c_are_choices ?k_are_choices ?a_is_part ?l_is_part ?c_is_part ?k_is_part ?a_is_instruction ?l_is_instruction ?c_is_instruction ?k_is_instruction ?a_goals_behind ?l_goals_behind ?c_goals_behind ?k_goals_behind ?a_quiet_goals ?l_quiet_goals ?c_quiet_goals ?k_quiet_goals ?a_height_behind ?l_height_behind ?c_height_behind ?k_height_behind ?a_reached_heights ?l_reached_heights ?c_reached_heights ?k_reached_heights ?a_has_quiet_circle ?l_has_quiet_circle ?c_has_quiet_circle ?k_has_quiet_circle ?a_is_sound ?l_is_sound ?c_is_sound ?k_is_sound ?a__law_tape ?l__law_tape ?c__law_tape ?k__law_tape ?a__law_take ?l__law_take ?c__law_take ?k__law_take ?a__law_is_integer ?l__law_is_integer ?c__law_is_integer ?k__law_is_integer ?a__law_same_items ?l__law_same_items ?c__law_same_items ?k__law_same_items ?a__law_same ?l__law_same ?c__law_same ?k__law_same ?a__law_shape_ok ?l__law_shape_ok ?c__law_shape_ok ?k__law_shape_ok ?a__law_choices_ok ?l__law_choices_ok ?c__law_choices_ok ?k__law_choices_ok ?a__law_moves ?l__law_moves ?c__law_moves ?k__law_moves ?a__law_sound ?l__law_sound ?c__law_sound ?k__law_sound ?a__law_instruction ?l__law_instruction ?c__law_instruction ?k__law_instruction ?a__law_pattern ?l__law_pattern ?c__law_pattern ?k__law_pattern ?a_law ?l_law ?c_law ?k_law ?x_MODULUS ?x_MOST_HEIGHT ?x_ANSWERS ?y_ANSWERS ?v_ANSWERS ?z_len ?z_abs ?z_int ?z_bool ?z_str ?z_list ?z_tuple ?z_dict ?z_isinstance ?z_range ?z_zip ?z_all ?z_sorted ?x_FORMS ?y_FORMS ?g_DFORMS ?f_DFORMS ?s_DFORMS ?x_SIGNS ?y_SIGNS ?g_DSIGNS ?f_DSIGNS ?s_DSIGNS
    (case a_is_number => k_is)
    (case l_is_number => k_is)
    (case c_is_number => k_is)
    (case k_is_number => k_is)
    (case a_is_choice => k_is)
    (case l_is_choice => k_is)
    (case c_is_choice => k_is)
    (case k_is_choice => k_is)
    (case a_are_choices => k_is)
    (case l_are_choices => k_is)
    (case c_are_choices => k_is)
    (case k_are_choices => k_is)
    (case a_is_part => k_is)
    (case l_is_part => k_is)
    (case c_is_part => k_is)
    (case k_is_part => k_is)
    (case a_is_instruction => k_is)
    (case l_is_instruction => k_is)
    (case c_is_instruction => k_is)
    (case k_is_instruction => k_is)
    (case a_goals_behind => k_is)
    (case l_goals_behind => k_is)
    (case c_goals_behind => k_is)
    (case k_goals_behind => k_is)
    (case a_quiet_goals => k_is)
    (case l_quiet_goals => k_is)
    (case c_quiet_goals => k_is)
    (case k_quiet_goals => k_is)
    (case a_height_behind => k_is)
    (case l_height_behind => k_is)
    (case c_height_behind => k_is)
    (case k_height_behind => k_is)
    (case a_reached_heights => k_is)
    (case l_reached_heights => k_is)
    (case c_reached_heights => k_is)
    (case k_reached_heights => k_is)
    (case a_has_quiet_circle => k_is)
    (case l_has_quiet_circle => k_is)
    (case c_has_quiet_circle => k_is)
    (case k_has_quiet_circle => k_is)
    (case a_is_sound => k_is)
    (case l_is_sound => k_is)
    (case c_is_sound => k_is)
    (case k_is_sound => k_is)
    (case a__law_tape => k_is)
    (case l__law_tape => k_is)
    (case c__law_tape => k_is)
    (case k__law_tape => k_is)
    (case a__law_take => k_is)
    (case l__law_take => k_is)
    (case c__law_take => k_is)
    (case k__law_take => k_is)
    (case a__law_is_integer => k_is)
    (case l__law_is_integer => k_is)
    (case c__law_is_integer => k_is)
    (case k__law_is_integer => k_is)
    (case a__law_same_items => k_is)
    (case l__law_same_items => k_is)
    (case c__law_same_items => k_is)
    (case k__law_same_items => k_is)
    (case a__law_same => k_is)
    (case l__law_same => k_is)
    (case c__law_same => k_is)
    (case k__law_same => k_is)
    (case a__law_shape_ok => k_is)
    (case l__law_shape_ok => k_is)
    (case c__law_shape_ok => k_is)
    (case k__law_shape_ok => k_is)
    (case a__law_choices_ok => k_is)
    (case l__law_choices_ok => k_is)
    (case c__law_choices_ok => k_is)
    (case k__law_choices_ok => k_is)
    (case a__law_moves => k_is)
    (case l__law_moves => k_is)
    (case c__law_moves => k_is)
    (case k__law_moves => k_is)
    (case a__law_sound => k_is)
    (case l__law_sound => k_is)
    (case c__law_sound => k_is)
    (case k__law_sound => k_is)
    (case a__law_instruction => k_is)
    (case l__law_instruction => k_is)
    (case c__law_instruction => k_is)
    (case k__law_instruction => k_is)
    (case a__law_pattern => k_is)
    (case l__law_pattern => k_is)
    (case c__law_pattern => k_is)
    (case k__law_pattern => k_is)
    (case a_law => k_is)
    (case l_law => k_is)
    (case c_law => k_is)
    (case k_law => k_is)
    (case x_MODULUS => k_is)
    (case x_MOST_HEIGHT => k_is)
    (case x_ANSWERS => k_is)
    (case y_ANSWERS => k_is)
    (case v_ANSWERS => (exact ⟨_, _, rfl, rfl, by decide, by repeat (first | exact .nil | refine .cons ⟨_, rfl⟩ ?_)⟩))
    (case z_len => k_is)
    (case z_abs => k_is)
    (case z_int => k_is)
    (case z_bool => k_is)
    (case z_str => k_is)
    (case z_list => k_is)
    (case z_tuple => k_is)
    (case z_dict => k_is)
    (case z_isinstance => k_is)
    (case z_range => k_is)
    (case z_zip => k_is)
    (case z_all => k_is)
    (case z_sorted => k_is)
    (case x_FORMS => k_is)
    (case y_FORMS => k_is)
    (case g_DFORMS => repeat (first | exact trivial | refine ⟨⟨_, _, rfl, rfl⟩, ?_⟩))
    (case f_DFORMS => repeat (first | exact OS.fe_nil | apply OS.fe_cons | exact OS.se_nil | apply OS.se_cons | exact ⟨_, _, rfl, rfl, by decide, by repeat (first | exact .nil | refine .cons ⟨_, rfl⟩ ?_)⟩ | k_is | rfl))
    (case s_DFORMS => decide +kernel)
    (case x_SIGNS => k_is)
    (case y_SIGNS => k_is)
    (case g_DSIGNS => repeat (first | exact trivial | refine ⟨⟨_, _, rfl, rfl⟩, ?_⟩))
    (case f_DSIGNS => repeat (first | exact OS.fe_nil | apply OS.fe_cons | exact OS.se_nil | apply OS.se_cons | exact ⟨_, _, rfl, rfl, by decide, by repeat (first | exact .nil | refine .cons ⟨_, rfl⟩ ?_)⟩ | k_is | rfl))
    (case s_DSIGNS => decide +kernel)
