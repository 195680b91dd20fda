import PyProof.Rows.All
import Wide.All
import OpenK.AllK
import Wide.FinOn
import HandS.ForMost
import HandS.StrMore
import HandS.IsInst
import HandS.Evl
import PySem.Challenge.RW_onescore_k01_tokens_of_texts
set_option Elab.async false
set_option linter.all false
set_option maxRecDepth 100000
/-! Plain mathematics of tokens: texts as lists of code points. -/
namespace OS
/-- where the run of signs with p stops that begins at i -/
def run (p : Nat → Bool) (cs : List Nat) (i : Nat) : Nat := i + ((cs.drop i).takeWhile p).length
theorem run_le (p : Nat → Bool) (cs : List Nat) {i : Nat} (h : i ≤ cs.length) : run p cs i ≤ cs.length := by
  have h1 : ((cs.drop i).takeWhile p).length ≤ (cs.drop i).length := (List.takeWhile_sublist p).length_le
  rw [List.length_drop] at h1
  unfold run
  omega
theorem le_run (p : Nat → Bool) (cs : List Nat) (i : Nat) : i ≤ run p cs i := Nat.le_add_right _ _
theorem drop_at {cs : List Nat} {i c : Nat} (h : cs[i]? = some c) : cs.drop i = c :: cs.drop (i + 1) := by
  obtain ⟨hi, e⟩ := List.getElem?_eq_some_iff.mp h
  rw [List.drop_eq_getElem_cons hi, e]
theorem run_go {p : Nat → Bool} {cs : List Nat} {i c : Nat} (h : cs[i]? = some c) (hp : p c = true) : run p cs i = run p cs (i + 1) := by
  unfold run
  rw [drop_at h, List.takeWhile_cons, if_pos hp, List.length_cons]
  omega
theorem run_stop {p : Nat → Bool} {cs : List Nat} {i c : Nat} (h : cs[i]? = some c) (hp : p c = false) : run p cs i = i := by
  unfold run
  rw [drop_at h, List.takeWhile_cons, hp]
  simp
theorem run_end {p : Nat → Bool} {cs : List Nat} {i : Nat} (h : cs.length ≤ i) : run p cs i = i := by
  unfold run
  rw [List.drop_eq_nil_of_le h]
  simp
theorem run_congr {p q : Nat → Bool} (h : ∀ c, p c = q c) (cs : List Nat) (i : Nat) : run p cs i = run q cs i := by
  have e : p = q := funext h
  rw [e]
theorem run_gt {p : Nat → Bool} {cs : List Nat} {i c : Nat} (h : cs[i]? = some c) (hp : p c = true) : i < run p cs i := by
  rw [run_go h hp]
  exact Nat.lt_of_lt_of_le (Nat.lt_succ_self i) (le_run p cs (i + 1))

def isLetter (c : Nat) : Bool := (decide (97 ≤ c) && decide (c ≤ 122)) || (decide (65 ≤ c) && decide (c ≤ 90))
def isDigit (c : Nat) : Bool := decide (48 ≤ c) && decide (c ≤ 57)
def isName (c : Nat) : Bool := isLetter c || (isDigit c || c == 95)
def notNl (c : Nat) : Bool := c != 10
/-- the sort and the end of the token at i; words tells which stretches are words, longs which two signs stand together, signs the rest -/
structure Tab where
  word : List Nat → Bool
  long : List Nat → Bool
  sign : Nat → Bool
inductive Srt where
  | word | name | number | sign | wrong
  deriving DecidableEq
def tokAt (T : Tab) (cs : List Nat) (i : Nat) : Srt × Nat :=
  match cs[i]? with
  | none => (.wrong, i + 1)
  | some c =>
    if isLetter c = true then
      (if T.word ((cs.drop i).take (run isName cs i - i)) = true then .word else .name, run isName cs i)
    else if isDigit c = true then (.number, run isDigit cs i)
    else if T.long ((cs.drop i).take 2) = true then (.sign, i + 2)
    else (if T.sign c = true then .sign else .wrong, i + 1)
theorem letter_name {c : Nat} (h : isLetter c = true) : isName c = true := by
  unfold isName; rw [h]; rfl
theorem tokAt_gt (T : Tab) (cs : List Nat) (i : Nat) : i < (tokAt T cs i).2 := by
  unfold tokAt
  cases e : cs[i]? with
  | none => exact Nat.lt_succ_self i
  | some c =>
    dsimp only
    by_cases h1 : isLetter c = true
    · rw [if_pos h1]; exact run_gt e (letter_name h1)
    · rw [if_neg h1]
      by_cases h2 : isDigit c = true
      · rw [if_pos h2]; exact run_gt e h2
      · rw [if_neg h2]
        by_cases h3 : T.long ((cs.drop i).take 2) = true
        · rw [if_pos h3]; show i < i + 2; omega
        · rw [if_neg h3]; show i < i + 1; omega

theorem tokAt_le (T : Tab) (cs : List Nat) {i : Nat} (h : i < cs.length) : (tokAt T cs i).2 ≤ cs.length + 1 := by
  unfold tokAt
  cases e : cs[i]? with
  | none => show i + 1 ≤ _; omega
  | some c =>
    dsimp only
    by_cases h1 : isLetter c = true
    · rw [if_pos h1]; exact Nat.le_succ_of_le (run_le _ cs (by omega))
    · rw [if_neg h1]
      by_cases h2 : isDigit c = true
      · rw [if_pos h2]; exact Nat.le_succ_of_le (run_le _ cs (by omega))
      · rw [if_neg h2]
        by_cases h3 : T.long ((cs.drop i).take 2) = true
        · rw [if_pos h3]; show i + 2 ≤ _; omega
        · rw [if_neg h3]; show i + 1 ≤ _; omega

structure Tk where
  s : Srt
  a : Nat
  b : Nat
/-- the tokens from i on -/
inductive Toks (T : Tab) (cs : List Nat) : Nat → List Tk → Prop
  | done {i : Nat} : cs.length ≤ i → Toks T cs i []
  | skip {i c : Nat} {L : List Tk} : cs[i]? = some c → (c = 32 ∨ c = 10) → Toks T cs (i + 1) L → Toks T cs i L
  | note {i : Nat} {L : List Tk} : cs[i]? = some 35 → Toks T cs (run notNl cs i) L → Toks T cs i L
  | tok {i c : Nat} {L : List Tk} : cs[i]? = some c → ¬ (c = 32 ∨ c = 10) → c ≠ 35 → Toks T cs (tokAt T cs i).2 L → Toks T cs i (⟨(tokAt T cs i).1, i, (tokAt T cs i).2⟩ :: L)
theorem Toks.det {T : Tab} {cs : List Nat} {i : Nat} {L M : List Tk} (h : Toks T cs i L) : Toks T cs i M → L = M := by
  induction h generalizing M with
  | done h =>
    intro g
    cases g with
    | done _ => rfl
    | skip e _ _ => rw [List.getElem?_eq_none h] at e; cases e
    | note e _ => rw [List.getElem?_eq_none h] at e; cases e
    | tok e _ _ _ => rw [List.getElem?_eq_none h] at e; cases e
  | skip e hc _ ih =>
    intro g
    cases g with
    | done h => rw [List.getElem?_eq_none h] at e; cases e
    | skip e' _ g => exact ih g
    | note e' _ => rw [e] at e'; injection e' with e'; omega
    | tok e' n _ _ => rw [e] at e'; injection e' with e'; rw [e'] at hc; exact absurd hc n
  | note e _ ih =>
    intro g
    cases g with
    | done h => rw [List.getElem?_eq_none h] at e; cases e
    | skip e' hc _ => rw [e] at e'; injection e' with e'; omega
    | note _ g => exact ih g
    | tok e' _ n _ => rw [e] at e'; injection e' with e'; exact absurd e'.symm n
  | tok e n1 n2 _ ih =>
    intro g
    cases g with
    | done h => rw [List.getElem?_eq_none h] at e; cases e
    | skip e' hc _ => rw [e] at e'; injection e' with e'; rw [e'] at n1; exact absurd hc n1
    | note e' _ => rw [e] at e'; injection e' with e'; exact absurd e' n2
    | tok _ _ _ g => rw [ih g]
end OS

/-! What all laws share: callees, data, heaps. -/
namespace OS
open PySem PySem.Spec PyProof.Rows L2
/-- a def that may be called: it keeps its promise, binds its parameters, stands at its name -/
structure Cal (P : Program) (w : World) (K : PySem.W.Frag) (mg : Str → Option Value) (base : Heap) (k : Nat) (x : Str) (ps : List Str) (sp : Sp) (f : Addr) (fd : FuncData) : Prop where
  G : FnOk P w K mg base CX0 k f fd ps sp
  b : Binds K fd ps []
  k : PySem.W.keepIn K (.ref f) = true
  m : mg x = some (.ref f)
theorem relS {z : Str} {t : Tok} : RelV (.str z) (.str z t) := ⟨t, rfl⟩
theorem relI {z : Int} {t : Tok} : RelV (.int z) (.int z t) := ⟨t, rfl⟩
theorem relR {a : Addr} : RelV (.ref a) (.ref a) := rfl
theorem same_upd {H : Hp} {p : Addr} {o : HO} (h : H p = none) : Same H (upd H p o) := fun b x e => by
  rw [upd_ne (ne_of_none e h)]
  exact e
theorem Same.tup {K : PySem.W.Frag} {H H' : Hp} {a : Addr} {xs : List V} (e : Same H H') (h : SqT K H a xs) : SqT K H' a xs := by
  rcases h with (h | ⟨o, h⟩) | h
  · exact .inl (.inl (e _ _ h))
  · exact .inl (.inr ⟨o, e _ _ h⟩)
  · exact .inr h
theorem sz6 {n : Nat} (h : n ≤ 100000) : n ≤ sizeLine := Nat.le_trans h (by decide)
theorem sz6' {n : Nat} (h : n < 100000) : n < sizeLine := Nat.lt_of_lt_of_le h (by decide)
/-- the sign at i of a text -/
theorem atI_cps {z : Str} {i c : Nat} (h : z.cps.toList[i]? = some c) : atI z.cps.toList (i : Int) = some c := atI_nat h
theorem len_cps (z : Str) : z.length = z.cps.toList.length := by
  unfold Str.length
  exact (Array.length_toList).symm
/-- a slice of a text by two places within it -/
theorem cut_mid {z : Str} {i j : Nat} (h1 : i ≤ j) (h2 : j ≤ z.length) : cutS z (some (i : Int)) (some (j : Int)) = ⟨((z.cps.toList.drop i).take (j - i)).toArray⟩ := by
  unfold cutS
  rw [HT.sIx_nat, HT.sIx_nat, Nat.min_eq_left (show i ≤ z.length by omega), Nat.min_eq_left h2]
theorem cut_mid' {z : Str} {i j : Nat} (h1 : i ≤ z.length) (h2 : i ≤ j) : cutS z (some (i : Int)) (some (j : Int)) = ⟨((z.cps.toList.drop i).take (j - i)).toArray⟩ := by
  unfold cutS
  rw [HT.sIx_nat, HT.sIx_nat, Nat.min_eq_left h1]
  by_cases h : j ≤ z.length
  · rw [Nat.min_eq_left h]
  · rw [Nat.min_eq_right (show z.length ≤ j by omega)]
    have e1 : ∀ n, z.length - i ≤ n → (z.cps.toList.drop i).take n = z.cps.toList.drop i := fun n hn => List.take_of_length_le (by rw [List.length_drop, ← len_cps]; exact hn)
    rw [e1 _ (Nat.le_refl _), e1 _ (by omega)]
theorem cut_from {z : Str} {i : Nat} (h1 : i ≤ z.length) : cutS z (some (i : Int)) none = ⟨(z.cps.toList.drop i).toArray⟩ := by
  unfold cutS
  rw [HT.sIx_nat, HT.sIx_none, Nat.min_eq_left h1]
  rw [List.take_of_length_le]
  rw [List.length_drop, ← len_cps]
  exact Nat.le_refl _
/-- one sign in a text: the pure test -/
def inS (z : Str) (c : Nat) : Bool := decide (c ∈ z.cps.toList)
/-- «for c in text» by an invariant over the turns -/
theorem for_str {x : Str} {g : TG} {tb : TS} {D : Ends} {σ : L2.St} {H : Hp} (Pv : Nat → L2.St → Hp → Prop) (h0 : Pv 0 σ H)
    (hs : ∀ i c σ H, x.cps.toList[i]? = some c → Pv i σ H → g (.str ⟨#[c]⟩) σ H fun σ2 H2 => tb { D with nx := Pv (i + 1), ct := Pv (i + 1), bk := D.nx } σ2 H2) (hd : ∀ σ H, Pv x.cps.toList.length σ H → D.nx σ H) :
    ∃ W : Nat → Nat → L2.St → Hp → Prop, (∃ m, W 0 m σ H) ∧ ∀ i m σ H, W i m σ H →
      ((Its x).stop i H ∧ D.nx σ H) ∨ ((Its x).go i H ∧ ∃ N : L2.St → Hp → Prop, (∀ σ' H', N σ' H' → ∃ m', m' < m ∧ W (i + 1) m' σ' H') ∧ ∀ v H', (Its x).yld i H v H' → g v σ H' fun σ2 H2 => tb { D with nx := N, ct := N, bk := D.nx } σ2 H2) := by
  refine ⟨fun i m σ H => m = x.cps.size - i ∧ i ≤ x.cps.size ∧ Pv i σ H, ⟨x.cps.size, by simp, Nat.zero_le _, h0⟩, ?_⟩
  rintro i m σ H ⟨rfl, hi, p⟩
  by_cases hlt : i < x.cps.size
  · refine .inr ⟨hlt, Pv (i + 1), fun σ' H' p' => ⟨x.cps.size - (i + 1), by omega, rfl, hlt, p'⟩, fun v H' y => ?_⟩
    obtain ⟨e, c, ec, rfl⟩ := y
    subst e
    exact hs i c σ _ (by rw [Array.getElem?_toList]; exact ec) p
  · have e : i = x.cps.size := by omega
    subst e
    exact .inl ⟨Nat.le_refl _, hd σ H (by rw [Array.length_toList]; exact p)⟩
/-! ### data: trees of None, bools, ints, texts, tuples, lists -/
inductive Dt where
  | non | bl (b : Bool) | int (i : Int) | str (x : Str) | tup (xs : List Dt) | lst (xs : List Dt)
mutual
/-- v holds the datum -/
def At (K : PySem.W.Frag) (H : Hp) : Dt → V → Prop
  | .non, v => v = .non
  | .bl b, v => v = .bl b
  | .int i, v => v = .int i
  | .str x, v => v = .str x
  | .tup xs, v => ∃ p vs, v = .ref p ∧ H p = some (.tup vs) ∧ AtL K H xs vs
  | .lst xs, v => ∃ p vs, v = .ref p ∧ H p = some (.lst vs) ∧ AtL K H xs vs
def AtL (K : PySem.W.Frag) (H : Hp) : List Dt → List V → Prop
  | [], vs => vs = []
  | d :: ds, vs => ∃ v r, vs = v :: r ∧ At K H d v ∧ AtL K H ds r
end
theorem AtL.length {K : PySem.W.Frag} {H : Hp} : ∀ {ds : List Dt} {vs : List V}, AtL K H ds vs → vs.length = ds.length
  | [], vs, h => by
    unfold AtL at h
    subst h
    rfl
  | d :: ds, vs, h => by
    unfold AtL at h
    obtain ⟨v, r, rfl, _, h⟩ := h
    rw [List.length_cons, List.length_cons, AtL.length h]
theorem AtL.get {K : PySem.W.Frag} {H : Hp} : ∀ {ds : List Dt} {vs : List V} {i : Nat} {d : Dt}, AtL K H ds vs → ds[i]? = some d → ∃ v, vs[i]? = some v ∧ At K H d v
  | [], _, _, _, _, e => by simp at e
  | d :: ds, vs, 0, d', h, e => by
    unfold AtL at h
    obtain ⟨v, r, rfl, hd, _⟩ := h
    have e : d = d' := Option.some.inj e
    subst e
    exact ⟨v, rfl, hd⟩
  | d :: ds, vs, i + 1, d', h, e => by
    unfold AtL at h
    obtain ⟨v, r, rfl, _, h⟩ := h
    exact AtL.get (ds := ds) (vs := r) (i := i) h e
mutual
theorem At.keep {K : PySem.W.Frag} {H H' : Hp} (s : Same H H') : ∀ {d : Dt} {v : V}, At K H d v → At K H' d v
  | .non, v, h => by unfold At at h ⊢; exact h
  | .bl b, v, h => by unfold At at h ⊢; exact h
  | .int i, v, h => by unfold At at h ⊢; exact h
  | .str x, v, h => by unfold At at h ⊢; exact h
  | .tup xs, v, h => by
    unfold At at h ⊢
    obtain ⟨p, vs, e, hp, hl⟩ := h
    exact ⟨p, vs, e, s _ _ hp, AtL.keep s hl⟩
  | .lst xs, v, h => by
    unfold At at h ⊢
    obtain ⟨p, vs, e, hp, hl⟩ := h
    exact ⟨p, vs, e, s _ _ hp, AtL.keep s hl⟩
theorem AtL.keep {K : PySem.W.Frag} {H H' : Hp} (s : Same H H') : ∀ {ds : List Dt} {vs : List V}, AtL K H ds vs → AtL K H' ds vs
  | [], vs, h => by unfold AtL at h ⊢; exact h
  | d :: ds, vs, h => by
    unfold AtL at h ⊢
    obtain ⟨v, r, e, hd, hl⟩ := h
    exact ⟨v, r, e, At.keep s hd, AtL.keep s hl⟩
end
theorem AtL.snoc {K : PySem.W.Frag} {H : Hp} {d : Dt} {v : V} (hd : At K H d v) : ∀ {ds : List Dt} {vs : List V}, AtL K H ds vs → AtL K H (ds ++ [d]) (vs ++ [v])
  | [], vs, h => by
    unfold AtL at h
    subst h
    show AtL K H [d] [v]
    unfold AtL
    exact ⟨v, [], rfl, hd, by unfold AtL; rfl⟩
  | e :: ds, vs, h => by
    unfold AtL at h
    obtain ⟨u, r, rfl, he, h⟩ := h
    show AtL K H (e :: (ds ++ [d])) (u :: (r ++ [v]))
    unfold AtL
    exact ⟨u, _, rfl, he, AtL.snoc hd h⟩
mutual
/-- how deep a datum is, and that its rows are not too long -/
def dep : Dt → Nat
  | .tup xs => depL xs + 1
  | .lst xs => depL xs + 1
  | _ => 0
def depL : List Dt → Nat
  | [] => 0
  | d :: ds => max (dep d) (depL ds)
end
mutual
def narrow : Dt → Prop
  | .tup xs => xs.length ≤ 100000 ∧ narrowL xs
  | .lst xs => xs.length ≤ 100000 ∧ narrowL xs
  | _ => True
def narrowL : List Dt → Prop
  | [] => True
  | d :: ds => narrow d ∧ narrowL ds
end
theorem depL_get : ∀ {ds : List Dt} {i : Nat} {d : Dt}, ds[i]? = some d → dep d ≤ depL ds
  | [], _, _, e => by simp at e
  | d :: ds, 0, d', e => by
    have e : d = d' := Option.some.inj e
    subst e
    unfold depL
    exact Nat.le_max_left _ _
  | d :: ds, i + 1, d', e => by
    have h := depL_get (ds := ds) (i := i) e
    unfold depL
    exact Nat.le_trans h (Nat.le_max_right _ _)
theorem narrowL_get : ∀ {ds : List Dt} {i : Nat} {d : Dt}, narrowL ds → ds[i]? = some d → narrow d
  | [], _, _, _, e => by simp at e
  | d :: ds, 0, d', h, e => by
    have e : d = d' := Option.some.inj e
    subst e
    unfold narrowL at h
    exact h.1
  | d :: ds, i + 1, d', h, e => by
    unfold narrowL at h
    exact narrowL_get h.2 e
end OS
namespace OS
theorem deep_of {xs : List Dt} {n : Nat} (h : depL xs + 1 < n + 1) (hn : narrowL xs) : ∀ d ∈ xs, dep d < n ∧ narrow d := fun d hd => by
  obtain ⟨i, hi⟩ := List.mem_iff_getElem?.mp hd
  exact ⟨Nat.lt_of_le_of_lt (depL_get hi) (by omega), narrowL_get hn hi⟩
end OS
/-! ### the tape from which a law draws -/
namespace OS
open PySem PySem.Spec PyProof.Rows L2
theorem key_ne {a b : Str} (h : ¬ a = b) : ¬ (Sum.inr a : Key) = Sum.inr b := fun q => h (Sum.inr.inj q)
abbrev kS (x : Str) : Key := Sum.inr x
def tapeD (c : Addr) (i left seed salt : Int) : List (Key × V) :=
  [(kS "cells", .ref c), (kS "at", .int i), (kS "left", .int left), (kS "seed", .int seed), (kS "salt", .int salt)]
section
variable {c : Addr} {i left seed salt v : Int}
theorem n01 : ¬ kS "cells" = kS "at" := key_ne (by decide +kernel)
theorem n02 : ¬ kS "cells" = kS "left" := key_ne (by decide +kernel)
theorem n03 : ¬ kS "cells" = kS "seed" := key_ne (by decide +kernel)
theorem n04 : ¬ kS "cells" = kS "salt" := key_ne (by decide +kernel)
theorem n12 : ¬ kS "at" = kS "left" := key_ne (by decide +kernel)
theorem n13 : ¬ kS "at" = kS "seed" := key_ne (by decide +kernel)
theorem n14 : ¬ kS "at" = kS "salt" := key_ne (by decide +kernel)
theorem n23 : ¬ kS "left" = kS "seed" := key_ne (by decide +kernel)
theorem n24 : ¬ kS "left" = kS "salt" := key_ne (by decide +kernel)
theorem n34 : ¬ kS "seed" = kS "salt" := key_ne (by decide +kernel)
theorem n10 : ¬ kS "at" = kS "cells" := Ne.symm n01
theorem n21 : ¬ kS "left" = kS "at" := Ne.symm n12
theorem n31 : ¬ kS "seed" = kS "at" := Ne.symm n13
theorem n41 : ¬ kS "salt" = kS "at" := Ne.symm n14
theorem n32 : ¬ kS "seed" = kS "left" := Ne.symm n23
theorem n42 : ¬ kS "salt" = kS "left" := Ne.symm n24
theorem t_cells : valV (tapeD c i left seed salt) (kS "cells") = some (.ref c) := valV_pos rfl
theorem t_at : valV (tapeD c i left seed salt) (kS "at") = some (.int i) := (valV_neg n01).trans (valV_pos rfl)
theorem t_left : valV (tapeD c i left seed salt) (kS "left") = some (.int left) := (valV_neg n02).trans ((valV_neg n12).trans (valV_pos rfl))
theorem t_seed : valV (tapeD c i left seed salt) (kS "seed") = some (.int seed) := (valV_neg n03).trans ((valV_neg n13).trans ((valV_neg n23).trans (valV_pos rfl)))
theorem t_salt : valV (tapeD c i left seed salt) (kS "salt") = some (.int salt) := (valV_neg n04).trans ((valV_neg n14).trans ((valV_neg n24).trans ((valV_neg n34).trans (valV_pos rfl))))
theorem put_there {kvs : List (Key × V)} {k : Key} {v : V} {u : V} (h : valV kvs k = some u) : putK kvs k v = kvs.map (fun kv => if kv.1 = k then (kv.1, v) else kv) := by
  unfold putK
  rw [valV_any, h]
  exact if_pos rfl
theorem p_at : putK (tapeD c i left seed salt) (kS "at") (.int v) = tapeD c v left seed salt := by
  rw [put_there t_at]
  unfold tapeD
  simp only [List.map_cons, List.map_nil, if_neg n01, if_pos, if_neg n21, if_neg n31, if_neg n41]
theorem p_left : putK (tapeD c i left seed salt) (kS "left") (.int v) = tapeD c i v seed salt := by
  rw [put_there t_left]
  unfold tapeD
  simp only [List.map_cons, List.map_nil, if_neg n02, if_pos, if_neg n12, if_neg n32, if_neg n42]
theorem p_salt : putK (tapeD c i left seed salt) (kS "salt") (.int v) = tapeD c i left seed v := by
  rw [put_there t_salt]
  unfold tapeD
  simp only [List.map_cons, List.map_nil, if_neg n04, if_pos, if_neg n14, if_neg n24, if_neg n34]
end
theorem put_new {kvs : List (Key × V)} {k : Key} {v : V} (h : valV kvs k = none) : putK kvs k v = kvs ++ [(k, v)] := by
  unfold putK
  rw [valV_any, h]
  exact if_neg (by simp)
theorem merge_tape (c : Addr) (i left seed salt : Int) : mergeK [] (tapeD c i left seed salt) = tapeD c i left seed salt := by
  unfold tapeD mergeK
  simp only [List.foldl_cons, List.foldl_nil]
  rw [put_new (k := kS "cells") valV_nil, List.nil_append]
  rw [put_new (k := kS "at") ((valV_neg n01).trans valV_nil)]
  simp only [List.cons_append, List.nil_append]
  rw [put_new (k := kS "left") ((valV_neg n02).trans ((valV_neg n12).trans valV_nil))]
  simp only [List.cons_append, List.nil_append]
  rw [put_new (k := kS "seed") ((valV_neg n03).trans ((valV_neg n13).trans ((valV_neg n23).trans valV_nil)))]
  simp only [List.cons_append, List.nil_append]
  rw [put_new (k := kS "salt") ((valV_neg n04).trans ((valV_neg n14).trans ((valV_neg n24).trans ((valV_neg n34).trans valV_nil))))]
  rfl
/-- d is a tape: what it holds is not told, but that it is in order -/
structure TapeIs (H : Hp) (d c : Addr) (ns : List Int) (i : Nat) (left seed salt : Int) : Prop where
  hd : H d = some (.dK (tapeD c i left seed salt))
  hc : H c = some (.lst (ns.map V.int))
  hi : i ≤ ns.length
  hn : ∀ n ∈ ns, 0 ≤ n
  hl : 0 ≤ left
  hs : 0 ≤ seed ∧ seed < 2 ^ 62
  ht : 0 ≤ salt
section
variable {H : Hp} {d c : Addr} {ns : List Int} {i : Nat} {left seed salt : Int}
theorem TapeIs.gcells (t : TapeIs H d c ns i left seed salt) : DGet H d (.str "cells") (some (.ref c)) := t_cells (i := i) (left := left) (seed := seed) (salt := salt) ▸ DGet.k (k := kS "cells") t.hd
theorem TapeIs.gat (t : TapeIs H d c ns i left seed salt) : DGet H d (.str "at") (some (.int i)) := t_at (c := c) (left := left) (seed := seed) (salt := salt) ▸ DGet.k (k := kS "at") t.hd
theorem TapeIs.gleft (t : TapeIs H d c ns i left seed salt) : DGet H d (.str "left") (some (.int left)) := t_left (c := c) (i := i) (seed := seed) (salt := salt) ▸ DGet.k (k := kS "left") t.hd
theorem TapeIs.gseed (t : TapeIs H d c ns i left seed salt) : DGet H d (.str "seed") (some (.int seed)) := t_seed (c := c) (i := i) (left := left) (salt := salt) ▸ DGet.k (k := kS "seed") t.hd
theorem TapeIs.gsalt (t : TapeIs H d c ns i left seed salt) : DGet H d (.str "salt") (some (.int salt)) := t_salt (c := c) (i := i) (left := left) (seed := seed) ▸ DGet.k (k := kS "salt") t.hd
theorem TapeIs.pat (t : TapeIs H d c ns i left seed salt) (v : Int) : DPut H d (.str "at") (.int v) (upd H d (.dK (tapeD c v left seed salt))) := p_at (c := c) (i := i) (left := left) (seed := seed) (salt := salt) (v := v) ▸ DPut.k (k := kS "at") t.hd (by show 5 < sizeLine; decide)
theorem TapeIs.pleft (t : TapeIs H d c ns i left seed salt) (v : Int) : DPut H d (.str "left") (.int v) (upd H d (.dK (tapeD c i v seed salt))) := p_left (c := c) (i := i) (left := left) (seed := seed) (salt := salt) (v := v) ▸ DPut.k (k := kS "left") t.hd (by show 5 < sizeLine; decide)
theorem TapeIs.psalt (t : TapeIs H d c ns i left seed salt) (v : Int) : DPut H d (.str "salt") (.int v) (upd H d (.dK (tapeD c i left seed v))) := p_salt (c := c) (i := i) (left := left) (seed := seed) (salt := salt) (v := v) ▸ DPut.k (k := kS "salt") t.hd (by show 5 < sizeLine; decide)
theorem TapeIs.cd (t : TapeIs H d c ns i left seed salt) : c ≠ d := ne_of t.hc t.hd (by intro z; cases z)
theorem TapeIs.set (t : TapeIs H d c ns i left seed salt) {j : Nat} {l s : Int} (hj : j ≤ ns.length) (hl : 0 ≤ l) (hs : 0 ≤ s) : TapeIs (upd H d (.dK (tapeD c j l seed s))) d c ns j l seed s :=
  ⟨upd_same, by rw [upd_ne t.cd]; exact t.hc, hj, t.hn, hl, t.hs, hs⟩
end
def Tape (H : Hp) (d c : Addr) : Prop := ∃ ns i left seed salt, TapeIs H d c ns i left seed salt
/-- all but what stands at d is as it was -/
def Off (d : Addr) (H H' : Hp) : Prop := ∀ b, b ≠ d → H' b = H b
theorem Off.refl {d : Addr} {H : Hp} : Off d H H := fun _ _ => rfl
theorem Off.trans {d : Addr} {H H1 H2 : Hp} (a : Off d H H1) (b : Off d H1 H2) : Off d H H2 := fun x hx => (b x hx).trans (a x hx)
theorem off_upd {d : Addr} {H : Hp} {o : HO} : Off d H (upd H d o) := fun b hb => upd_ne hb
/-- all that stood, d apart, stands as it was -/
def Kept (d : Addr) (H H' : Hp) : Prop := ∀ b o, b ≠ d → H b = some o → H' b = some o
theorem Kept.refl {d : Addr} {H : Hp} : Kept d H H := fun _ _ _ h => h
theorem Kept.trans {d : Addr} {H H1 H2 : Hp} (a : Kept d H H1) (b : Kept d H1 H2) : Kept d H H2 := fun x o hx h => b x o hx (a x o hx h)
theorem Kept.of {d : Addr} {H H' : Hp} (s : Same H H') : Kept d H H' := fun b o _ h => s b o h
theorem Off.kept {d : Addr} {H H' : Hp} (s : Off d H H') : Kept d H H' := fun b o hb h => (s b hb).trans h
theorem Tape.at' {H H' : Hp} {d c : Addr} (h : Tape H d c) (e1 : H' d = H d) (e2 : H' c = H c) : Tape H' d c := by
  obtain ⟨ns, i, l, se, sa, h⟩ := h
  exact ⟨ns, i, l, se, sa, e1.trans h.hd, e2.trans h.hc, h.hi, h.hn, h.hl, h.hs, h.ht⟩
theorem Tape.keep {H H' : Hp} {d c : Addr} (s : Same H H') (h : Tape H d c) : Tape H' d c := by
  obtain ⟨ns, i, l, se, sa, h⟩ := h
  exact ⟨ns, i, l, se, sa, s _ _ h.hd, s _ _ h.hc, h.hi, h.hn, h.hl, h.hs, h.ht⟩
/-- a fresh address is not the tape's -/
theorem Tape.ne {H : Hp} {d c p : Addr} (h : Tape H d c) (hp : H p = none) : p ≠ d ∧ p ≠ c := by
  obtain ⟨ns, i, l, se, sa, h⟩ := h
  exact ⟨(ne_of_none h.hd hp).symm, (ne_of_none h.hc hp).symm⟩
theorem Tape.put {H : Hp} {d c p : Addr} {o : HO} (h : Tape H d c) (hp : p ≠ d ∧ p ≠ c) : Tape (upd H p o) d c := h.at' (upd_ne hp.1.symm) (upd_ne hp.2.symm)
theorem Kept.upd {H H' : Hp} {d p : Addr} {o : HO} (k : Kept d H H') (hp : H p = none) : Kept d H (upd H' p o) := fun b u hb e => by
  rw [upd_ne (ne_of_none e hp)]
  exact k b u hb e
def spTape (K : PySem.W.Frag) : Sp := fun vs H Q _ => ∃ (a : Addr) (ns : List Int), vs = [.ref a] ∧ SqL K H a (ns.map V.int) ∧ ns.length ≤ 63 ∧ ∀ d c H', Same H H' → H d = none → H c = none → Tape H' d c → Q (.ref d) H'
def spTake : Sp := fun vs H Q _ => ∃ (d c : Addr) (m : Int), vs = [.ref d, .int m] ∧ Tape H d c ∧ 0 < m ∧ m < 1000000 ∧ ∀ r H', 0 ≤ r → r < m → Tape H' d c → Off d H H' → Q (.int r) H'
end OS

/-! text.find(sign, i) -/
namespace OS
open PySem PySem.Spec L2 PySem.StrLaws Builtin Builtin.Str
theorem occ_full (s sub : Str) (hi : Nat) : ∀ (l : List Nat) (st : Array Nat × Nat), st.fst.size = 1 → (forIn l st (occBody s sub hi 1)).run.fst = st.fst
  | [], st, h => rfl
  | a :: l, st, h => by
    rw [List.forIn_cons]
    unfold occBody
    rw [if_neg (fun q => by have := q.1.1.1; omega)]
    exact occ_full s sub hi l (st.fst, st.snd) h
theorem occ_first (s sub : Str) (hi : Nat) : ∀ (l : List Nat) (free : Nat), (∀ i ∈ l, free ≤ i) →
    (forIn l ((#[] : Array Nat), free) (occBody s sub hi 1)).run.fst.toList = (l.find? fun i => decide (i + sub.length ≤ hi ∧ subAt s sub i = true)).toList
  | [], free, _ => rfl
  | a :: l, free, hf => by
    rw [List.forIn_cons]
    unfold occBody
    have ha : free ≤ a := hf a (List.mem_cons_self ..)
    by_cases hc : a + sub.length ≤ hi ∧ subAt s sub a = true
    · have c1 : (((#[] : Array Nat), free).fst.size < 1 ∧ ((#[] : Array Nat), free).snd ≤ a) ∧ a + sub.length ≤ hi := ⟨⟨by simp, ha⟩, hc.1⟩
      rw [if_pos ⟨c1, hc.2⟩, List.find?_cons, decide_eq_true hc]
      have e := occ_full s sub hi l (((#[] : Array Nat), free).fst.push a, a + sub.length) (by simp)
      have e2 := congrArg Array.toList e
      exact e2
    · have c2 : ¬ (((((#[] : Array Nat), free).fst.size < 1 ∧ ((#[] : Array Nat), free).snd ≤ a) ∧ a + sub.length ≤ hi) ∧ subAt s sub a = true) := fun h => hc ⟨h.1.2, h.2⟩
      rw [if_neg c2, List.find?_cons, decide_eq_false hc]
      exact occ_first s sub hi l free (fun i hi' => hf i (List.mem_cons_of_mem _ hi'))
theorem find_range (cs : List Nat) (c : Nat) : ∀ (n lo : Nat), lo + n = cs.length + 1 →
    (List.range' lo n).find? (fun i => decide (cs[i]? = some c)) = if run (fun x => x != c) cs lo < cs.length then some (run (fun x => x != c) cs lo) else none
  | 0, lo, h => by
    rw [run_end (by omega), if_neg (by omega)]
    rfl
  | n + 1, lo, h => by
    rw [List.range'_succ, List.find?_cons]
    by_cases e : cs[lo]? = some c
    · rw [decide_eq_true e, run_stop e (by simp), if_pos (List.getElem?_eq_some_iff.mp e).1]
    · rw [decide_eq_false e]
      show (List.range' (lo + 1) n).find? _ = _
      by_cases hl : lo < cs.length
      · have g := List.getElem?_eq_getElem hl
        rw [find_range cs c n (lo + 1) (by omega), ← run_go g (by
          rw [bne_iff_ne]
          intro z
          rw [z] at g
          exact e g)]
      · rw [find_range cs c n (lo + 1) (by omega), run_end (i := lo) (by omega), run_end (i := lo + 1) (by omega), if_neg (by omega), if_neg (by omega)]
theorem find3_one (z : Str) (c i : Nat) (hi : i ≤ z.length) : Txt.find3 z ⟨#[c]⟩ (i : Int) = if run (fun x => x != c) z.cps.toList i < z.length then ((run (fun x => x != c) z.cps.toList i : Nat) : Int) else -1 := by
  have hf : fromIndex z.length (i : Int) = i := by
    unfold fromIndex
    rw [if_neg (by omega)]
    omega
  have hz := len_cps z
  unfold Txt.find3
  rw [hf, occ_eq, occ_first z ⟨#[c]⟩ z.length _ i (fun j hj => (List.mem_range'_1.mp hj).1)]
  have e1 : (fun j => decide (j + (⟨#[c]⟩ : Str).length ≤ z.length ∧ subAt z ⟨#[c]⟩ j = true)) = (fun j => decide (z.cps.toList[j]? = some c)) := by
    funext j
    exact decide_eq_decide.mpr (subAt_one z c j)
  rw [e1, find_range _ _ _ _ (by omega)]
  rw [← hz]
  by_cases h : run (fun x => x != c) z.cps.toList i < z.length
  · rw [if_pos h, if_pos h]
    rfl
  · rw [if_neg h, if_neg h]
    rfl
end OS

namespace OS
open PySem PySem.Spec PyProof.Rows L2
def topS (i : Nat) : Stmt := PySem.Challenge.pw_onescore_k01_tokens_of_texts.main.body.getD i (.Pass ⟨0, 0, 0, 0⟩)
abbrev s_run_end : Stmt := topS 7
theorem sc_run_end : FnScope ["text", "at", "letters"] ["text", "at", "letters"] (defScope s_run_end) := ⟨rfl, rfl, rfl, by decide +kernel, rfl, by decide +kernel, by decide +kernel⟩
abbrev s_line_end : Stmt := topS 8
theorem sc_line_end : FnScope ["text", "at", "end"] ["text", "at"] (defScope s_line_end) := ⟨rfl, rfl, rfl, by decide +kernel, rfl, by decide +kernel, by decide +kernel⟩
abbrev s_token_at : Stmt := topS 9
theorem sc_token_at : FnScope ["text", "at", "end"] ["text", "at"] (defScope s_token_at) := ⟨rfl, rfl, rfl, by decide +kernel, rfl, by decide +kernel, by decide +kernel⟩
abbrev s_tokens : Stmt := topS 10
theorem sc_tokens : FnScope ["text", "found", "at", "sort", "end"] ["text"] (defScope s_tokens) := ⟨rfl, rfl, rfl, by decide +kernel, rfl, by decide +kernel, by decide +kernel⟩
abbrev s__law_tape : Stmt := topS 12
theorem sc__law_tape : FnScope ["script", "cell", "cells", "seed"] ["script"] (defScope s__law_tape) := ⟨rfl, rfl, rfl, by decide +kernel, rfl, by decide +kernel, by decide +kernel⟩
abbrev s__law_take : Stmt := topS 13
theorem sc__law_take : FnScope ["tape", "many", "drawn", "mixed"] ["tape", "many"] (defScope s__law_take) := ⟨rfl, rfl, rfl, by decide +kernel, rfl, by decide +kernel, by decide +kernel⟩
abbrev s__law_is_integer : Stmt := topS 14
theorem sc__law_is_integer : FnScope ["actual"] ["actual"] (defScope s__law_is_integer) := ⟨rfl, rfl, rfl, by decide +kernel, rfl, by decide +kernel, by decide +kernel⟩
abbrev s__law_same_items : Stmt := topS 15
theorem sc__law_same_items : FnScope ["actual", "expected", "k"] ["actual", "expected"] (defScope s__law_same_items) := ⟨rfl, rfl, rfl, by decide +kernel, rfl, by decide +kernel, by decide +kernel⟩
abbrev s__law_same : Stmt := topS 16
theorem sc__law_same : FnScope ["actual", "expected", "key"] ["actual", "expected"] (defScope s__law_same) := ⟨rfl, rfl, rfl, by decide +kernel, rfl, by decide +kernel, by decide +kernel⟩
abbrev s__law_letter : Stmt := topS 17
theorem sc__law_letter : FnScope ["char"] ["char"] (defScope s__law_letter) := ⟨rfl, rfl, rfl, by decide +kernel, rfl, by decide +kernel, by decide +kernel⟩
abbrev s__law_digit : Stmt := topS 18
theorem sc__law_digit : FnScope ["char"] ["char"] (defScope s__law_digit) := ⟨rfl, rfl, rfl, by decide +kernel, rfl, by decide +kernel, by decide +kernel⟩
abbrev s__law_stretch : Stmt := topS 19
theorem sc__law_stretch : FnScope ["text", "at", "end", "number", "char", "inside"] ["text", "at"] (defScope s__law_stretch) := ⟨rfl, rfl, rfl, by decide +kernel, rfl, by decide +kernel, by decide +kernel⟩
abbrev s__law_token : Stmt := topS 20
theorem sc__law_token : FnScope ["text", "at", "words", "char", "end"] ["text", "at"] (defScope s__law_token) := ⟨rfl, rfl, rfl, by decide +kernel, rfl, by decide +kernel, by decide +kernel⟩
abbrev s__law_tokens : Stmt := topS 21
theorem sc__law_tokens : FnScope ["text", "result", "behind", "comment", "at"] ["text"] (defScope s__law_tokens) := ⟨rfl, rfl, rfl, by decide +kernel, rfl, by decide +kernel, by decide +kernel⟩
abbrev s__law_char : Stmt := topS 22
theorem sc__law_char : FnScope ["tape", "chars"] ["tape"] (defScope s__law_char) := ⟨rfl, rfl, rfl, by decide +kernel, rfl, by decide +kernel, by decide +kernel⟩
abbrev s__law_scraps : Stmt := topS 23
theorem sc__law_scraps : FnScope ["tape", "most", "words", "parts", "k"] ["tape", "most"] (defScope s__law_scraps) := ⟨rfl, rfl, rfl, by decide +kernel, rfl, by decide +kernel, by decide +kernel⟩
abbrev s_law : Stmt := topS 24
theorem sc_law : FnScope ["script", "tape", "k", "text"] ["script"] (defScope s_law) := ⟨rfl, rfl, rfl, by decide +kernel, rfl, by decide +kernel, by decide +kernel⟩
def wordsL : List Str := ["ends", "part", "play", "call", "asks", "sets", "as", "if", "else", "while"]
def longsL : List Str := ["->", "=="]
def zLET : Str := "abcdefghijklmnopqrstuvwxyzABCDEFGHIJKLMNOPQRSTUVWXYZ"
def zDIG : Str := "0123456789"
def zNAM : Str := "abcdefghijklmnopqrstuvwxyzABCDEFGHIJKLMNOPQRSTUVWXYZ0123456789_"
def zSIG : Str := "(){},:=<+-*"
/-- what the text's top has left that the defs lean on -/
structure Txt (K : PySem.W.Frag) (mg : Str → Option Value) : Prop where
  len : mg "len" = none
  abs : mg "abs" = none
  int : mg "int" = none
  bool : mg "bool" = none
  str : mg "str" = none
  list : mg "list" = none
  tuple : mg "tuple" = none
  dict : mg "dict" = none
  isinstance : mg "isinstance" = none
  range : mg "range" = none
  mLET : ∃ t, mg "LETTERS" = some (.str zLET t)
  mDIG : ∃ t, mg "DIGITS" = some (.str zDIG t)
  mNAM : ∃ t, mg "LETTERS_OF_NAMES" = some (.str zNAM t)
  mSIG : ∃ t, mg "SIGNS" = some (.str zSIG t)
  mWOR : ∃ a, mg "WORDS" = some (.ref a) ∧ ∀ H, SqT K H a (wordsL.map V.str)
  mLON : ∃ a, mg "LONG_SIGNS" = some (.ref a) ∧ ∀ H, SqT K H a (longsL.map V.str)
/-- the table of the texts: words, long signs, signs -/
def tab : Tab := { word := fun l => inV (.str ⟨l.toArray⟩) (wordsL.map V.str), long := fun l => inV (.str ⟨l.toArray⟩) (longsL.map V.str), sign := inS zSIG }
/-! ### the signs by classes -/
theorem low_of {z : Str} (h : z.cps.toList.all (fun c => decide (c < 128)) = true) {c : Nat} (hc : ¬ c < 128) : inS z c = false := by
  unfold inS
  refine decide_eq_false fun m => hc ?_
  exact of_decide_eq_true (List.all_eq_true.mp h c m)
theorem inS_LET (c : Nat) : inS zLET c = isLetter c := by
  by_cases h : c < 128
  · have q : ∀ c : Nat, c < 128 → inS zLET c = isLetter c := by decide +kernel
    exact q c h
  · rw [low_of (by decide +kernel) h]
    unfold isLetter
    rw [decide_eq_false (show ¬ c ≤ 122 by omega), decide_eq_false (show ¬ c ≤ 90 by omega)]
    simp
theorem inS_DIG (c : Nat) : inS zDIG c = isDigit c := by
  by_cases h : c < 128
  · have q : ∀ c : Nat, c < 128 → inS zDIG c = isDigit c := by decide +kernel
    exact q c h
  · rw [low_of (by decide +kernel) h]
    unfold isDigit
    rw [decide_eq_false (show ¬ c ≤ 57 by omega)]
    simp
theorem inS_NAM (c : Nat) : inS zNAM c = isName c := by
  by_cases h : c < 128
  · have q : ∀ c : Nat, c < 128 → inS zNAM c = isName c := by decide +kernel
    exact q c h
  · rw [low_of (by decide +kernel) h]
    unfold isName isLetter isDigit
    rw [decide_eq_false (show ¬ c ≤ 122 by omega), decide_eq_false (show ¬ c ≤ 90 by omega), decide_eq_false (show ¬ c ≤ 57 by omega)]
    have e : (c == 95) = false := by
      rw [beq_eq_false_iff_ne]
      omega
    rw [e]
    simp
section
variable {P : Program} {w : World} {K : PySem.W.Frag} {mg : Str → Option Value} {base : Heap}
/-! ### run_end -/
def spRun : Sp := fun vs H Q _ => ∃ (z l : Str) (i : Nat), vs = [.str z, .int i, .str l] ∧ z.length ≤ 100000 ∧ i ≤ z.length ∧ Q (.int (run (inS l) z.cps.toList i : Nat)) H
theorem ok_run_end {f : Addr} {fd : FuncData} (F : Fun K "run_end" "run_end" s_run_end f fd) (T : Txt K mg) : FnOk P w K mg base CX0 1 f fd ["text", "at", "letters"] spRun := by
  refine F.ok sc_run_end (fun vs H Q E h => ?_) (fun cdv A outer s H vs Q E hr h => ?_)
  · obtain ⟨z, l, i, rfl, _⟩ := h
    rfl
  · obtain ⟨z, l, i, rfl, hz, hi, k⟩ := h
    have hzl := len_cps z
    refine ⟨_, (pss_cons (ps_while PassesOwn.never (PW.pt (pw_and (pt_cmpR op_lt (pv 1) (pe_callB call_len_str (by rfl) T.len PySem.boot_len (pa_cons (pv 0) pa_nil)) (nomark _)) (pw_and1 (pt_cmpR op_in_sign (pe_ix ix_str (pv 0) (pv 1) (fun _ _ => rfl)) (pv 2) (by rfl))))) (pss_one (ps_aug (i := 1) sc_run_end.nd rfl (.inl rfl) pe_int ip_add)))
      (pss_one (ps_ret (pv 1)))), ?_⟩
    refine ⟨fun m σ H' => ∃ j : Nat, σ = [some (.str z), some (.int j), some (.str l)] ∧ m + j = z.length ∧ run (inS l) z.cps.toList j = run (inS l) z.cps.toList i ∧ H' = H,
      ⟨z.length - i, i, rfl, by omega, rfl, rfl⟩, ?_⟩
    rintro m σ H' ⟨j, rfl, hj, ej, rfl⟩
    refine ⟨_, rfl, _, rfl, z, rfl, sz6 hz, _, _, rfl, rfl, _, rfl, ?_⟩
    by_cases c1 : j < z.length
    · rw [decide_eq_true (show (j : Int) < (z.length : Int) by omega)]
      refine iteT ?_
      obtain ⟨c, ec⟩ : ∃ c, z.cps.toList[j]? = some c := ⟨_, List.getElem?_eq_getElem (by omega)⟩
      refine ⟨_, rfl, _, rfl, z, _, c, rfl, rfl, sz6 hz, atI_cps ec, _, rfl, c, l, rfl, rfl, _, rfl, ?_⟩
      by_cases c2 : inS l c = true
      · rw [show decide (c ∈ l.cps.toList) = true from c2]
        refine iteT ⟨_, fun _ _ h => h, ?_⟩
        refine ⟨_, rfl, _, _, rfl, rfl, ?_⟩
        exact ⟨m - 1, by omega, j + 1, rfl, by omega, by rw [← run_go ec c2]; exact ej, rfl⟩
      · rw [show decide (c ∈ l.cps.toList) = false from Bool.eq_false_iff.mpr c2]
        refine iteF ⟨_, rfl, ?_⟩
        rw [← ej, run_stop ec (Bool.eq_false_iff.mpr c2)] at k
        exact k
    · rw [decide_eq_false (show ¬ (j : Int) < (z.length : Int) by omega)]
      refine iteF (iteF ⟨_, rfl, ?_⟩)
      rw [← ej, run_end (by omega)] at k
      exact k
/-! ### line_end -/
def spLine : Sp := fun vs H Q _ => ∃ (z : Str) (i : Nat), vs = [.str z, .int i] ∧ z.length ≤ 100000 ∧ i ≤ z.length ∧ Q (.int (run notNl z.cps.toList i : Nat)) H
theorem ok_line_end {f : Addr} {fd : FuncData} (F : Fun K "line_end" "line_end" s_line_end f fd) (T : Txt K mg) : FnOk P w K mg base CX0 1 f fd ["text", "at"] spLine := by
  refine F.ok sc_line_end (fun vs H Q E h => ?_) (fun cdv A outer s H vs Q E hr h => ?_)
  · obtain ⟨z, i, rfl, _⟩ := h
    rfl
  · obtain ⟨z, i, rfl, hz, hi, k⟩ := h
    have hzl := len_cps z
    refine ⟨_, (pss_cons (ps_set (i := 2) sc_line_end.nd rfl (.inl rfl) (pe_bm PySem.F.plainAttrs_str PySem.F.slot_str_find PySem.F.type_str_find mt_find3 (pv 0) (pa_cons pe_str (pa_cons (pv 1) pa_nil))))
      (pss_one (ps_ret (pe_ifExp (pt_cmpR op_eq (pv 2) (pe_un un_neg pe_int) (nomark _)) (pe_callB call_len_str (by rfl) T.len PySem.boot_len (pa_cons (pv 0) pa_nil)) (pv 2))))), ?_⟩
    have hrl := run_le notNl z.cps.toList (i := i) (by omega)
    have e0 : Txt.find3 z (Str.ofString "\n") (i : Int) = if run notNl z.cps.toList i < z.length then ((run notNl z.cps.toList i : Nat) : Int) else -1 := find3_one z 10 i hi
    refine ⟨_, rfl, rfl, _, rfl, z, _, _, rfl, rfl, ?_⟩
    rw [e0]
    by_cases c : run notNl z.cps.toList i < z.length
    · rw [if_pos c]
      refine ⟨_, rfl, _, rfl, rfl, _, rfl, ?_⟩
      rw [decide_eq_false (fun q => by injection q with q; omega)]
      exact iteF ⟨_, rfl, k⟩
    · rw [if_neg c]
      refine ⟨_, rfl, _, rfl, rfl, _, rfl, ?_⟩
      rw [decide_eq_true rfl]
      refine iteT ⟨_, rfl, z, rfl, sz6 hz, ?_⟩
      rw [show (z.length : Nat) = run notNl z.cps.toList i by omega]
      exact k
/-! ### token_at -/
def kindV : Srt → V
  | .word => .str "word" | .name => .str "name" | .number => .str "number" | .sign => .str "sign" | .wrong => .str "wrong"
def spTokAt : Sp := fun vs H Q _ => ∃ (z : Str) (i : Nat), vs = [.str z, .int i] ∧ z.length ≤ 100000 ∧ i < z.length ∧
  ∀ p, H p = none → Q (.ref p) (upd H p (.tup [kindV (tokAt tab z.cps.toList i).1, .int ((tokAt tab z.cps.toList i).2 : Nat)]))
theorem ok_token_at {f : Addr} {fd : FuncData} (F : Fun K "token_at" "token_at" s_token_at f fd) (T : Txt K mg) {f_run_end : Addr} {d_run_end : FuncData} (c_run_end : Cal P w K mg base 1 "run_end" ["text", "at", "letters"] spRun f_run_end d_run_end) : FnOk P w K mg base CX0 2 f fd ["text", "at"] spTokAt := by
  refine F.ok sc_token_at (fun vs H Q E h => ?_) (fun cdv A outer s H vs Q E hr h => ?_)
  · obtain ⟨z, i, rfl, _⟩ := h
    rfl
  · obtain ⟨z, i, rfl, hz, hi, k⟩ := h
    have hzl := len_cps z
    obtain ⟨t1, m_LETTERS⟩ := T.mLET
    obtain ⟨t2, m_DIGITS⟩ := T.mDIG
    obtain ⟨t3, m_LETTERS_OF_NAMES⟩ := T.mNAM
    obtain ⟨t4, m_SIGNS⟩ := T.mSIG
    obtain ⟨aW, m_WORDS, hW⟩ := T.mWOR
    obtain ⟨aL, m_LONG_SIGNS, hL⟩ := T.mLON
    refine ⟨_, (pss_cons (ps_if (pt_cmpR op_in_sign (pe_ix ix_str (pv 0) (pv 1) (fun _ _ => rfl)) (pe_glob rfl m_LETTERS relS) (by rfl)) (pss_cons (ps_set (i := 2) sc_token_at.nd rfl (.inl rfl) (pe_call c_run_end.G (hr.mono (by decide)) (by rfl) c_run_end.m c_run_end.k c_run_end.b .nil pass0 (pa_cons (pv 0) (pa_cons (pv 1) (pa_cons (pe_glob rfl m_LETTERS_OF_NAMES relS) pa_nil)))))
      (pss_one (ps_ret (pe_tup (pa_cons (pe_ifExp (pt_cmpR op_in_seq (pe_slice sl_str (pv 0) (po_some (pv 1)) (po_some (pv 2))) (pe_glob rfl m_WORDS relR) (by rfl)) pe_str pe_str) (pa_cons (pv 2) pa_nil)))))) pss_nil)
      (pss_cons (ps_if (pt_cmpR op_in_sign (pe_ix ix_str (pv 0) (pv 1) (fun _ _ => rfl)) (pe_glob rfl m_DIGITS relS) (by rfl)) (pss_one (ps_ret (pe_tup (pa_cons pe_str (pa_cons (pe_call c_run_end.G (hr.mono (by decide)) (by rfl) c_run_end.m c_run_end.k c_run_end.b .nil pass0 (pa_cons (pv 0) (pa_cons (pv 1) (pa_cons (pe_glob rfl m_DIGITS relS) pa_nil)))) pa_nil))))) pss_nil)
      (pss_cons (ps_if (pt_cmpR op_in_seq (pe_slice sl_str (pv 0) (po_some (pv 1)) (po_some (pe_op op_add (pv 1) pe_int))) (pe_glob rfl m_LONG_SIGNS relR) (by rfl)) (pss_one (ps_ret (pe_tup (pa_cons pe_str (pa_cons (pe_op op_add (pv 1) pe_int) pa_nil))))) pss_nil)
      (pss_one (ps_ret (pe_tup (pa_cons (pe_ifExp (pt_cmpR op_in_sign (pe_ix ix_str (pv 0) (pv 1) (fun _ _ => rfl)) (pe_glob rfl m_SIGNS relS) (by rfl)) pe_str pe_str) (pa_cons (pe_op op_add (pv 1) pe_int) pa_nil)))))))), ?_⟩
    obtain ⟨c, ec⟩ : ∃ c, z.cps.toList[i]? = some c := ⟨_, List.getElem?_eq_getElem (by omega)⟩
    have hix : atI z.cps.toList (i : Int) = some c := atI_cps ec
    have e3 : tokAt tab z.cps.toList i = if isLetter c = true then
      (if tab.word ((z.cps.toList.drop i).take (run isName z.cps.toList i - i)) = true then .word else .name, run isName z.cps.toList i)
      else if isDigit c = true then (.number, run isDigit z.cps.toList i)
      else if tab.long ((z.cps.toList.drop i).take 2) = true then (.sign, i + 2)
      else (if tab.sign c = true then .sign else .wrong, i + 1) := by
      unfold tokAt
      rw [ec]
    rw [e3] at k
    refine ⟨_, rfl, _, rfl, z, _, c, rfl, rfl, sz6 hz, hix, c, zLET, rfl, rfl, _, rfl, ?_⟩
    rw [show decide (c ∈ zLET.cps.toList) = isLetter c from inS_LET c]
    refine ite2 (fun c1 => ?_) (fun c1 => ?_)
    · rw [if_pos c1] at k
      refine ⟨_, rfl, _, rfl, z, zNAM, i, rfl, hz, by omega, ?_⟩
      rw [run_congr inS_NAM]
      have hrl := run_le isName z.cps.toList (i := i) (by omega)
      have hrg := le_run isName z.cps.toList i
      refine ⟨_, rfl, _, rfl, _, rfl, _, rfl, _, rfl, z, rfl, sz6 hz, ?_⟩
      rw [cut_mid hrg (by omega)]
      refine ⟨aW, _, rfl, .inr (hW _), rfl, by decide +kernel, _, rfl, ?_⟩
      show (if tab.word ((z.cps.toList.drop i).take (run isName z.cps.toList i - i)) = true then _ else _)
      refine ite2 (fun c2 => ?_) (fun c2 => ?_)
      · rw [if_pos c2] at k
        refine ⟨_, rfl, by show 2 ≤ sizeLine; decide, fun p hp => k p hp⟩
      · rw [if_neg c2] at k
        refine ⟨_, rfl, by show 2 ≤ sizeLine; decide, fun p hp => k p hp⟩
    · rw [if_neg c1] at k
      refine ⟨_, rfl, _, rfl, z, _, c, rfl, rfl, sz6 hz, hix, c, zDIG, rfl, rfl, _, rfl, ?_⟩
      rw [show decide (c ∈ zDIG.cps.toList) = isDigit c from inS_DIG c]
      refine ite2 (fun c2 => ?_) (fun c2 => ?_)
      · rw [if_pos c2] at k
        refine ⟨_, rfl, _, rfl, z, zDIG, i, rfl, hz, by omega, ?_⟩
        rw [run_congr inS_DIG]
        exact ⟨by show 2 ≤ sizeLine; decide, fun p hp => k p hp⟩
      · rw [if_neg c2] at k
        refine ⟨_, rfl, _, rfl, _, rfl, _, rfl, _, _, rfl, rfl, _, rfl, z, rfl, sz6 hz, ?_⟩
        rw [show ((i : Int) + 2) = ((i + 2 : Nat) : Int) by omega, cut_mid' (by omega) (by omega), show i + 2 - i = 2 by omega]
        refine ⟨aL, _, rfl, .inr (hL _), rfl, by decide +kernel, _, rfl, ?_⟩
        show (if tab.long ((z.cps.toList.drop i).take 2) = true then _ else _)
        refine ite2 (fun c3 => ?_) (fun c3 => ?_)
        · rw [if_pos c3] at k
          exact ⟨_, rfl, _, _, rfl, rfl, by show 2 ≤ sizeLine; decide, fun p hp => k p hp⟩
        · rw [if_neg c3] at k
          refine ⟨_, rfl, _, rfl, z, _, c, rfl, rfl, sz6 hz, hix, c, zSIG, rfl, rfl, _, rfl, ?_⟩
          show (if tab.sign c = true then _ else _)
          refine ite2 (fun c4 => ?_) (fun c4 => ?_)
          · rw [if_pos c4] at k
            exact ⟨_, rfl, _, _, rfl, rfl, by show 2 ≤ sizeLine; decide, fun p hp => k p hp⟩
          · rw [if_neg c4] at k
            exact ⟨_, rfl, _, _, rfl, rfl, by show 2 ≤ sizeLine; decide, fun p hp => k p hp⟩
/-! ### tokens -/
/-- the tokens as data -/
def tkD (t : Tk) : List V := [kindV t.s, .int (t.a : Nat), .int (t.b : Nat)]
/-- a list at a of tuples that are these tokens -/
def TksAt (H : Hp) (a : Addr) (L : List Tk) : Prop := ∃ ps : List Addr, H a = some (.lst (ps.map V.ref)) ∧ Paired (fun p t => H p = some (.tup (tkD t))) ps L
def spTokens : Sp := fun vs H Q _ => ∃ (z : Str), vs = [.str z] ∧ z.length ≤ 10000 ∧
  ∀ a H' L, Same H H' → H a = none → TksAt H' a L → Toks tab z.cps.toList 0 L → L.length ≤ z.length + 1 → Q (.ref a) H'
theorem pa_same {H H' : Hp} (s : Same H H') : ∀ {ps : List Addr} {L : List Tk}, Paired (fun p t => H p = some (.tup (tkD t))) ps L → Paired (fun p t => H' p = some (.tup (tkD t))) ps L
  | _, _, .nil => .nil
  | _, _, .cons h r => .cons (s _ _ h) (pa_same s r)
theorem pa_off {H H' : Hp} {a : Addr} {xs : List V} (ha : H a = some (.lst xs)) (s : ∀ b o, b ≠ a → H b = some o → H' b = some o) : ∀ {ps : List Addr} {L : List Tk}, Paired (fun p t => H p = some (.tup (tkD t))) ps L → Paired (fun p t => H' p = some (.tup (tkD t))) ps L
  | _, _, .nil => .nil
  | _, _, .cons h r => .cons (s _ _ (ne_of h ha (by intro z; cases z)) h) (pa_off ha s r)
theorem pa_snoc {R : Addr → Tk → Prop} {p : Addr} {t : Tk} (h : R p t) : ∀ {ps : List Addr} {L : List Tk}, Paired R ps L → Paired R (ps ++ [p]) (L ++ [t])
  | _, _, .nil => .cons h .nil
  | _, _, .cons g r => .cons g (pa_snoc h r)
theorem ok_tokens {f : Addr} {fd : FuncData} (F : Fun K "tokens" "tokens" s_tokens f fd) (T : Txt K mg) {f_line_end : Addr} {d_line_end : FuncData} (c_line_end : Cal P w K mg base 1 "line_end" ["text", "at"] spLine f_line_end d_line_end) {f_token_at : Addr} {d_token_at : FuncData} (c_token_at : Cal P w K mg base 2 "token_at" ["text", "at"] spTokAt f_token_at d_token_at) : FnOk P w K mg base CX0 3 f fd ["text"] spTokens := by
  refine F.ok sc_tokens (fun vs H Q E h => ?_) (fun cdv A outer s H vs Q E hr h => ?_)
  · obtain ⟨z, rfl, _⟩ := h
    rfl
  · obtain ⟨z, rfl, hz', k⟩ := h
    have hz : z.length ≤ 100000 := by omega
    have hzl := len_cps z
    refine ⟨_, (pss_cons (ps_set (i := 1) sc_tokens.nd rfl (.inl rfl) (pe_lst pa_nil))
      (pss_cons (ps_set (i := 2) sc_tokens.nd rfl (.inl rfl) pe_int)
      (pss_cons (ps_while PassesOwn.never (pt_cmpR op_lt (pv 2) (pe_callB call_len_str (by rfl) T.len PySem.boot_len (pa_cons (pv 0) pa_nil)) (nomark _)) (pss_one (ps_if (pt_cmpR op_in_sign (pe_ix ix_str (pv 0) (pv 2) (fun _ _ => rfl)) pe_str (by rfl)) (pss_one (ps_aug (i := 2) sc_tokens.nd rfl (.inl rfl) pe_int ip_add)) (pss_one (ps_if (pt_cmpR op_eq (pe_ix ix_str (pv 0) (pv 2) (fun _ _ => rfl)) pe_str (nomark _)) (pss_one (ps_set (i := 2) sc_tokens.nd rfl (.inl rfl) (pe_call c_line_end.G (hr.mono (by decide)) (by rfl) c_line_end.m c_line_end.k c_line_end.b .nil pass0 (pa_cons (pv 0) (pa_cons (pv 2) pa_nil))))) (pss_cons (ps_asg (pe_call c_token_at.G (hr.mono (by decide)) (by rfl) c_token_at.m c_token_at.k c_token_at.b .nil pass0 (pa_cons (pv 0) (pa_cons (pv 2) pa_nil))) (pg_tup (by rfl) (pgs_cons (pg_name (i := 3) sc_tokens.nd rfl (.inl rfl)) (pgs_cons (pg_name (i := 4) sc_tokens.nd rfl (.inl rfl)) pgs_nil))))
      (pss_cons (ps_expr (pe_bm PySem.F.plainAttrs_list PySem.F.slot_list_append PySem.F.type_list_append mt_append (pv 1) (pa_cons (pe_tup (pa_cons (pv 3) (pa_cons (pv 2) (pa_cons (pv 4) pa_nil)))) pa_nil)))
      (pss_one (ps_set (i := 2) sc_tokens.nd rfl (.inl rfl) (pv 4))))))))))
      (pss_one (ps_ret (pv 1)))))), ?_⟩
    refine ⟨Nat.zero_le _, fun a na => ?_⟩
    refine ⟨fun m σ H' => ∃ (j : Nat) (L : List Tk) (y3 y4 : Option V), σ = [some (.str z), some (.ref a), some (.int j), y3, y4] ∧ j ≤ z.length + 1 ∧ m = z.length + 1 - j ∧ Same H H' ∧ TksAt H' a L ∧ L.length ≤ j ∧
      ∀ R, Toks tab z.cps.toList j R → Toks tab z.cps.toList 0 (L ++ R), ⟨z.length + 1, 0, [], none, none, rfl, by omega, rfl, same_upd na, ⟨[], upd_same, .nil⟩, Nat.le_refl _, fun R h => h⟩, ?_⟩
    rintro m σ H' ⟨j, L, y3, y4, rfl, hj, rfl, sm, ⟨ps, hps, hpl⟩, hL, ht⟩
    refine ⟨_, rfl, _, rfl, z, rfl, sz6 hz, _, _, rfl, rfl, _, rfl, ?_⟩
    by_cases c0 : j < z.length
    · rw [decide_eq_true (show (j : Int) < (z.length : Int) by omega)]
      refine iteT ⟨_, fun _ _ h => h, ?_⟩
      obtain ⟨c, ec⟩ : ∃ c, z.cps.toList[j]? = some c := ⟨_, List.getElem?_eq_getElem (by omega)⟩
      have hix : atI z.cps.toList (j : Int) = some c := atI_cps ec
      refine ⟨_, rfl, _, rfl, z, _, c, rfl, rfl, sz6 hz, hix, c, _, rfl, rfl, _, rfl, ?_⟩
      have e1 : decide (c ∈ (Str.ofString " \n").cps.toList) = decide (c = 32 ∨ c = 10) := decide_eq_decide.mpr (by
        show c ∈ [32, 10] ↔ _
        simp)
      rw [e1]
      by_cases c1 : c = 32 ∨ c = 10
      · rw [decide_eq_true c1]
        refine iteT ⟨_, rfl, _, _, rfl, rfl, ?_⟩
        exact ⟨z.length + 1 - (j + 1), by omega, j + 1, L, y3, y4, rfl, by omega, rfl, sm, ⟨ps, hps, hpl⟩, by omega, fun R h => ht R (.skip ec c1 h)⟩
      · rw [decide_eq_false c1]
        refine iteF ⟨_, rfl, _, rfl, z, _, c, rfl, rfl, sz6 hz, hix, rfl, _, rfl, ?_⟩
        have e2 : decide (V.str ⟨#[c]⟩ = V.str (Str.ofString "#")) = decide (c = 35) := decide_eq_decide.mpr ⟨fun q => by
          injection q with q
          injection q with q
          have q := congrArg Array.toList q
          injection q, fun q => by rw [q]; rfl⟩
        rw [e2]
        by_cases c2 : c = 35
        · rw [decide_eq_true c2]
          have g := run_le notNl z.cps.toList (i := j) (by omega)
          have g2 : j < run notNl z.cps.toList j := run_gt ec (by rw [c2]; rfl)
          refine iteT ⟨_, rfl, _, rfl, z, j, rfl, hz, by omega, ?_⟩
          exact ⟨z.length + 1 - run notNl z.cps.toList j, by omega, run notNl z.cps.toList j, L, y3, y4, rfl, by omega, rfl, sm, ⟨ps, hps, hpl⟩, by omega, fun R h => ht R (.note (by rw [← c2]; exact ec) h)⟩
        · rw [decide_eq_false c2]
          refine iteF ⟨_, rfl, _, rfl, z, j, rfl, hz, c0, fun p np => ?_⟩
          have g := tokAt_le tab z.cps.toList (i := j) (by omega)
          have g2 := tokAt_gt tab z.cps.toList j
          refine ⟨p, _, rfl, SqT.of upd_same, rfl, _, _, rfl, _, _, rfl, rfl, ?_⟩
          have nap : a ≠ p := ne_of_none hps np
          have h1 : (upd H' p (.tup [kindV (tokAt tab z.cps.toList j).1, .int ((tokAt tab z.cps.toList j).2 : Nat)])) a = some (.lst (ps.map V.ref)) := by rw [upd_ne nap]; exact hps
          have s1 : Same H' (upd H' p (.tup [kindV (tokAt tab z.cps.toList j).1, .int ((tokAt tab z.cps.toList j).2 : Nat)])) := same_upd np
          refine ⟨_, rfl, .inl ⟨rfl, _, SqL.of h1⟩, _, rfl, _, rfl, _, rfl, by show 3 ≤ sizeLine; decide, fun q nq => ?_⟩
          have naq : a ≠ q := ne_of_none h1 nq
          have h2 := (upd_ne naq (H := upd H' p (.tup [kindV (tokAt tab z.cps.toList j).1, .int ((tokAt tab z.cps.toList j).2 : Nat)])) (o := .tup (tkD ⟨(tokAt tab z.cps.toList j).1, j, (tokAt tab z.cps.toList j).2⟩))).trans h1
          refine ⟨a, _, _, rfl, rfl, h2, ?_, ?_⟩
          · rw [List.length_map, hpl.length]
            exact sz6' (by omega)
          · refine ⟨_, rfl, ?_⟩
            refine ⟨z.length + 1 - (tokAt tab z.cps.toList j).2, by omega, (tokAt tab z.cps.toList j).2, L ++ [⟨(tokAt tab z.cps.toList j).1, j, (tokAt tab z.cps.toList j).2⟩], _, _, rfl, by omega, rfl, ?_, ⟨ps ++ [q], ?_, ?_⟩, ?_, ?_⟩
            · intro b o e
              rw [upd_ne (ne_of_none e na)]
              exact same_upd nq _ _ (s1 _ _ (sm _ _ e))
            · rw [upd_same, List.map_append]
              rfl
            · refine pa_snoc ?_ (pa_off h2 (fun b o hb e => by rw [upd_ne hb]; exact e) (pa_same (same_upd nq) (pa_same s1 hpl)))
              show upd _ a _ q = _
              rw [upd_ne naq.symm, upd_same]
              rfl
            · rw [List.length_append]
              show L.length + 1 ≤ _
              omega
            · intro R h
              rw [List.append_assoc]
              exact ht _ (.tok ec c1 c2 h)
    · rw [decide_eq_false (show ¬ (j : Int) < (z.length : Int) by omega)]
      refine iteF ⟨_, rfl, k a H' L sm na ⟨ps, hps, hpl⟩ ?_ (by omega)⟩
      have q := ht [] (.done (by omega))
      rw [List.append_nil] at q
      exact q
end
end OS

namespace OS
open PySem PySem.Spec PyProof.Rows L2
section
variable {P : Program} {w : World} {K : PySem.W.Frag} {mg : Str → Option Value} {base : Heap}
theorem fdiv_nn {a b : Int} (ha : 0 ≤ a) (hb : 0 < b) : 0 ≤ a.fdiv b := by
  rw [Int.fdiv_eq_ediv_of_nonneg _ (by omega)]
  exact Int.ediv_nonneg ha (by omega)
/-! ### _law_take -/
theorem ok_law_take {f : Addr} {fd : FuncData} (F : Fun K "_law_take" "_law_take" s__law_take f fd) (T : Txt K mg) : FnOk P w K mg base CX0 1 f fd ["tape", "many"] spTake := by
  refine F.ok sc__law_take (fun vs H Q E h => ?_) (fun cdv A outer s H vs Q E hr h => ?_)
  · obtain ⟨d, c, m, rfl, _⟩ := h
    rfl
  · obtain ⟨d, c, m, rfl, hT, hm, hm2, k⟩ := h
    have hu := hu_of hr
    refine ⟨_, (Evl.pss_cut (ps_if (PW.pt (pw_and (pt_cmpR op_eq (pe_dget hu (pv 0) pe_str (fun _ _ => rfl)) pe_int (nomark _)) (pw_and1 (pt_cmpR op_lt (pe_dget hu (pv 0) pe_str (fun _ _ => rfl)) (pe_callB call_len_seq (by rfl) T.len PySem.boot_len (pa_cons (pe_dget hu (pv 0) pe_str (fun _ _ => rfl)) pa_nil)) (nomark _))))) (pss_cons (ps_dput hu (pv 0) pe_str (pe_ix ix_list (pe_dget hu (pv 0) pe_str (fun _ _ => rfl)) (pe_dget hu (pv 0) pe_str (fun _ _ => rfl)) (fun _ _ => rfl)) rfl)
      (pss_one (ps_dput hu (pv 0) pe_str (pe_op op_add (pe_dget hu (pv 0) pe_str (fun _ _ => rfl)) pe_int) rfl))) pss_nil)
      (pss_cons (ps_if (pt_cmpR op_gt (pe_dget hu (pv 0) pe_str (fun _ _ => rfl)) pe_int (nomark _)) (pss_cons (ps_set (i := 2) sc__law_take.nd rfl (.inl rfl) (pe_op op_modN (pe_callTy call_int1 (by rfl) T.int (by decide +kernel) (pa_cons (pe_dget hu (pv 0) pe_str (fun _ _ => rfl)) pa_nil)) (pv 1)))
      (pss_cons (ps_dput hu (pv 0) pe_str (pe_op op_fdivN (pe_dget hu (pv 0) pe_str (fun _ _ => rfl)) (pv 1)) rfl)
      (pss_one (ps_ret (pv 2))))) pss_nil)
      (pss_cons (ps_dput hu (pv 0) pe_str (pe_op op_add (pe_dget hu (pv 0) pe_str (fun _ _ => rfl)) pe_int) rfl)
      (pss_cons (ps_set (i := 3) sc__law_take.nd rfl (.inl rfl) (pe_op op_modN (pe_callTy call_int1 (by rfl) T.int (by decide +kernel) (pa_cons (pe_op op_add (pe_op op_mul (pe_dget hu (pv 0) pe_str (fun _ _ => rfl)) pe_int) (pe_op op_mul (pe_dget hu (pv 0) pe_str (fun _ _ => rfl)) pe_int)) pa_nil)) pe_int))
      (pss_cons (ps_set (i := 3) sc__law_take.nd rfl (.inl rfl) (pe_op op_modN (pe_callTy call_int1 (by rfl) T.int (by decide +kernel) (pa_cons (pe_op op_add (pe_op op_add (pe_op op_mul (pv 3) (pv 3)) (pe_op op_mul (pe_dget hu (pv 0) pe_str (fun _ _ => rfl)) pe_int)) pe_int) pa_nil)) pe_int))
      (pss_one (ps_ret (pe_op op_modN (pe_callTy call_int1 (by rfl) T.int (by decide +kernel) (pa_cons (pv 3) pa_nil)) (pv 1))))))))), ?_⟩
    refine ⟨fun σ H1 => σ = [some (.ref d), some (.int m), none, none] ∧ Tape H1 d c ∧ Off d H H1, ?_, ?_⟩
    · obtain ⟨ns, i, l, se, sa, t⟩ := id hT
      refine ⟨_, rfl, d, _, rfl, t.gleft, rfl, _, rfl, ?_⟩
      refine ite2 (fun c1 => ?_) (fun c1 => ?_)
      · refine ⟨_, rfl, d, _, rfl, t.gat, _, rfl, d, _, rfl, t.gcells, c, _, rfl, .inl (SqL.of t.hc), _, _, rfl, rfl, _, rfl, ?_⟩
        rw [List.length_map]
        refine ite2 (fun c2 => ?_) (fun c2 => ?_)
        · have c2 : (i : Int) < (ns.length : Int) := of_decide_eq_true c2
          have hi : i < ns.length := by omega
          have g : (ns.map V.int)[i]? = some (.int ns[i]) := by
            rw [List.getElem?_map, List.getElem?_eq_getElem hi]
            rfl
          refine ⟨_, rfl, d, _, rfl, t.gcells, _, rfl, d, _, rfl, t.gat, c, _, _, _, rfl, rfl, SqL.of t.hc, atI_nat g, _, rfl, d, _, rfl, t.pleft _, ?_⟩
          have t1 := t.set (j := i) (l := ns[i]) (s := sa) t.hi (t.hn _ (List.getElem_mem hi)) t.ht
          refine ⟨_, rfl, d, _, rfl, t1.gat, _, _, rfl, rfl, _, rfl, d, _, rfl, t1.pat _, ?_⟩
          have t2 := t1.set (j := i + 1) (l := ns[i]) (s := sa) (by omega) t1.hl t.ht
          exact ⟨rfl, ⟨ns, i + 1, _, _, _, t2⟩, off_upd.trans off_upd⟩
        · exact ⟨rfl, hT, .refl⟩
      · exact iteF ⟨rfl, hT, .refl⟩
    · rintro σ H1 ⟨rfl, hT, hO⟩
      obtain ⟨ns, i, l, se, sa, t⟩ := id hT
      refine ⟨_, rfl, d, _, rfl, t.gleft, _, _, rfl, rfl, _, rfl, ?_⟩
      refine ite2 (fun c1 => ?_) (fun c1 => ?_)
      · have c1 : 0 < l := of_decide_eq_true c1
        refine ⟨_, rfl, d, _, rfl, t.gleft, .inl ⟨_, rfl, _, rfl, _, _, rfl, rfl, by omega, ?_⟩⟩
        refine ⟨_, rfl, d, _, rfl, t.gleft, _, rfl, _, _, rfl, rfl, ⟨by omega, by omega⟩, _, rfl, d, _, rfl, t.pleft _, ?_⟩
        have t1 := t.set (j := i) (l := l.fdiv m) (s := sa) t.hi (fdiv_nn t.hl hm) t.ht
        exact ⟨_, rfl, k _ _ (Int.fmod_nonneg_of_pos _ hm) (Int.fmod_lt_of_pos _ hm) ⟨ns, i, _, _, _, t1⟩ (hO.trans off_upd)⟩
      · refine ⟨_, rfl, d, _, rfl, t.gsalt, _, _, rfl, rfl, _, rfl, d, _, rfl, t.psalt _, ?_⟩
        have t1 := t.set (j := i) (l := l) (s := sa + 1) t.hi t.hl (by have := t.ht; omega)
        have hs := t.hs
        refine ⟨_, rfl, d, _, rfl, t1.gseed, _, _, rfl, rfl, .inl ⟨by omega, by omega⟩, ?_⟩
        refine ⟨_, rfl, d, _, rfl, t1.gsalt, _, _, rfl, rfl, .inr ⟨by decide, by decide⟩, _, _, rfl, rfl, .inl ⟨_, rfl, _, _, rfl, rfl, (by show (2147483647 : Int) ≠ 0; decide), ?_⟩⟩
        have b1 := Int.fmod_nonneg_of_pos (se * 48271 + (sa + 1) * 69621) (show (0 : Int) < 2147483647 by decide)
        have b2 := Int.fmod_lt_of_pos (se * 48271 + (sa + 1) * 69621) (show (0 : Int) < 2147483647 by decide)
        refine ⟨_, rfl, _, rfl, _, _, rfl, rfl, .inl ⟨by omega, by omega⟩, ?_⟩
        refine ⟨_, rfl, d, _, rfl, t1.gsalt, _, _, rfl, rfl, .inr ⟨by decide, by decide⟩, _, _, rfl, rfl, _, _, rfl, rfl, .inl ⟨_, rfl, _, _, rfl, rfl, (by show (2147483399 : Int) ≠ 0; decide), ?_⟩⟩
        refine ⟨_, rfl, .inl ⟨_, rfl, _, rfl, _, _, rfl, rfl, by omega, ?_⟩⟩
        exact k _ _ (Int.fmod_nonneg_of_pos _ hm) (Int.fmod_lt_of_pos _ hm) ⟨ns, i, _, _, _, t1⟩ (hO.trans off_upd)
/-! ### _law_tape -/
theorem ok_law_tape {f : Addr} {fd : FuncData} (F : Fun K "_law_tape" "_law_tape" s__law_tape f fd) (T : Txt K mg) : FnOk P w K mg base CX0 1 f fd ["script"] (spTape K) := by
  refine F.ok sc__law_tape (fun vs H Q E h => ?_) (fun cdv A outer s H vs Q E hr h => ?_)
  · obtain ⟨a, ns, rfl, _⟩ := h
    rfl
  · obtain ⟨a, ns, rfl, hS, h63, k⟩ := h
    have hu := hu_of hr
    have hgn : ∀ {i : Nat} {x : V}, (ns.map V.int)[i]? = some x → ∃ n, ns[i]? = some n ∧ x = .int n := fun {i x} hi => by
      rw [List.getElem?_map] at hi
      cases e : ns[i]? with
      | none => rw [e] at hi; cases hi
      | some n => rw [e] at hi; exact ⟨n, rfl, (Option.some.inj hi).symm⟩
    refine ⟨_, (pss_cons (ps_setLc (i := 2) (own := [("cell", 1)]) (g := gName 1) (by rfl) sc__law_tape.nd rfl rfl (sw_true rfl rfl rfl (by decide +kernel)) (pi_list (pv 0)) (blkOk_by (N := ["script", "cell", "cells", "seed"]) (sc := defScope s__law_tape) (by decide +kernel)) (fun _ _ _ _ _ => pg_name (i := 1) sc__law_tape.nd rfl (Or.inl rfl)) (fun _ _ _ _ _ => pts_nil) (fun _ _ _ _ _ => (pe_callB call_abs (by rfl) T.abs (by decide +kernel) (pa_cons (pe_callTy call_int1 (by rfl) T.int (by decide +kernel) (pa_cons (pv 1) pa_nil)) pa_nil))))
      (pss_cons (ps_set (i := 3) sc__law_tape.nd rfl (.inl rfl) pe_int)
      (pss_cons (ps_for PassesOwn.never rfl (pi_list (pv 2)) (pg_name (i := 1) sc__law_tape.nd rfl (.inl rfl)) (pss_one (ps_set (i := 3) sc__law_tape.nd rfl (.inl rfl) (pe_op op_modN (pe_callTy call_int1 (by rfl) T.int (by decide +kernel) (pa_cons (pe_op op_add (pe_op op_mul (pv 3) pe_int) (pv 1)) pa_nil)) pe_int))))
      (pss_one (ps_ret (pe_disp (pps_cons pe_str (pv 2) (pps_cons pe_str pe_int (pps_cons pe_str pe_int (pps_cons pe_str (pv 3) (pps_cons pe_str pe_int pps_nil))))) (by rfl) (by rfl) (fun z => by cases z) (by decide))))))), ?_⟩
    refine ⟨_, rfl, a, rfl, ⟨_, hS⟩, fun D nD => ?_⟩
    refine lc_list (K := K) (a := a) (xs := ns.map V.int) (fun i H1 => Same H H1 ∧ ∃ ms : List Int, H1 D = some (.lst (ms.map V.int)) ∧ ms.length = i ∧ ∀ n ∈ ms, 0 ≤ n)
      ⟨same_upd nD, [], upd_same, rfl, fun n h => by cases h⟩ (fun i H1 _ h => h.1.seq hS) ?_ ?_
    · rintro i x H1 hi ⟨sm, ms, hD, hl, hn⟩
      obtain ⟨n, en, rfl⟩ := hgn hi
      have hi2 : i < ns.length := (List.getElem?_eq_some_iff.mp en).1
      refine ⟨rfl, iteT (B := True) ?_⟩
      refine ⟨_, rfl, .inl ⟨_, rfl, _, rfl, _, hD, ?_, ?_⟩⟩
      · rw [List.length_map]
        exact sz6' (by omega)
      · refine ⟨fun b o e => ?_, ms ++ [if n < 0 then -n else n], ?_, ?_, ?_⟩
        · rw [upd_ne (ne_of_none e nD)]
          exact sm _ _ e
        · rw [upd_same, List.map_append]
          rfl
        · rw [List.length_append, hl]
          rfl
        · intro y hy
          rcases List.mem_append.mp hy with hy | hy
          · exact hn y hy
          · rw [List.mem_singleton.mp hy]
            split <;> omega
    · rintro H1 ⟨sm, ms, hD, hl, hn⟩
      rw [List.length_map] at hl
      refine ⟨_, rfl, D, rfl, ⟨_, SqL.of hD⟩, for_list (K := K) (a := D) (xs := ms.map V.int) (fun i σ H2 => ∃ (y : Option V) (sd : Int), σ = [some (.ref a), y, some (.ref D), some (.int sd)] ∧ 0 ≤ sd ∧ sd < 2 ^ 62 ∧ H2 = H1)
        ⟨_, 7, rfl, by decide, by decide, rfl⟩ (fun i σ H2 _ ⟨_, _, _, _, _, e⟩ => by rw [e]; exact SqL.of hD) ?_ ?_⟩
      · rintro i x σ H2 hi ⟨y, sd, rfl, h0, h1, rfl⟩
        obtain ⟨n, en, rfl⟩ : ∃ n, ms[i]? = some n ∧ x = .int n := by
          rw [List.getElem?_map] at hi
          cases e : ms[i]? with
          | none => rw [e] at hi; cases hi
          | some n => rw [e] at hi; exact ⟨n, rfl, (Option.some.inj hi).symm⟩
        refine ⟨_, rfl, _, _, rfl, rfl, .inl ⟨by omega, by omega⟩, _, rfl, _, _, rfl, rfl, .inl ⟨_, rfl, _, _, rfl, rfl, (by show (2147483647 : Int) ≠ 0; decide), ?_⟩⟩
        have b1 := Int.fmod_nonneg_of_pos (sd * 31 + n) (show (0 : Int) < 2147483647 by decide)
        have b2 := Int.fmod_lt_of_pos (sd * 31 + n) (show (0 : Int) < 2147483647 by decide)
        exact ⟨_, _, rfl, b1, by omega, rfl⟩
      · rintro σ H2 ⟨y, sd, rfl, h0, h1, rfl⟩
        intro d hd
        refine ⟨_, rfl, _, rfl, upd_same, tapeD D 0 0 sd 0, rfl, (by show 5 ≤ 15; decide), ?_⟩
        have hDd : D ≠ d := ne_of_none hD hd
        have t : TapeIs (upd (upd H2 d (.dK [])) d (.dK (mergeK [] (tapeD D 0 0 sd 0)))) d D ms 0 0 sd 0 := by
          refine ⟨?_, ?_, Nat.zero_le _, hn, by decide, ⟨h0, h1⟩, by decide⟩
          · rw [upd_same, merge_tape]
            rfl
          · rw [upd_ne hDd, upd_ne hDd]
            exact hD
        refine k d D _ (fun b o e => ?_) (sm.free hd) nD ⟨ms, 0, 0, sd, 0, t⟩
        rw [upd_ne (ne_of_none (sm _ _ e) hd), upd_ne (ne_of_none (sm _ _ e) hd)]
        exact sm _ _ e
end
end OS

namespace OS
open PySem PySem.Spec PyProof.Rows L2
section
variable {P : Program} {w : World} {K : PySem.W.Frag} {mg : Str → Option Value} {base : Heap}
/-! ### _law_is_integer, _law_same_items, _law_same: equal data are the same -/
def spIsInt : Sp := fun vs H Q _ => ∃ i : Int, vs = [.int i] ∧ Q (.bl true) H
def spSame (K : PySem.W.Frag) (n : Nat) : Sp := fun vs H Q _ => ∃ (v u : V) (d : Dt), vs = [v, u] ∧ At K H d v ∧ At K H d u ∧ dep d < n ∧ narrow d ∧ Q (.bl true) H
/-- a row of data, in a list or a tuple -/
def RowAt (K : PySem.W.Frag) (H : Hp) (a : Addr) (vs : List V) : Prop := H a = some (.lst vs) ∨ H a = some (.tup vs)
theorem RowAt.seq {H : Hp} {a : Addr} {vs : List V} (h : RowAt K H a vs) : SqL K H a vs ∨ SqT K H a vs := by
  rcases h with h | h
  · exact .inl (SqL.of h)
  · exact .inr (SqT.of h)
def spItems (K : PySem.W.Frag) (n : Nat) : Sp := fun vs H Q _ => ∃ (p q : Addr) (xs ys : List V) (ds : List Dt), vs = [.ref p, .ref q] ∧ RowAt K H p xs ∧ RowAt K H q ys ∧ AtL K H ds xs ∧ AtL K H ds ys ∧
  (∀ d ∈ ds, dep d < n ∧ narrow d) ∧ ds.length ≤ 100000 ∧ Q (.bl true) H
theorem ok_law_is_integer {f : Addr} {fd : FuncData} (F : Fun K "_law_is_integer" "_law_is_integer" s__law_is_integer f fd) (T : Txt K mg) : FnOk P w K mg base CX0 1 f fd ["actual"] spIsInt := by
  refine F.ok sc__law_is_integer (fun vs H Q E h => ?_) (fun cdv A outer s H vs Q E hr h => ?_)
  · obtain ⟨i, rfl, _⟩ := h
    rfl
  · obtain ⟨i, rfl, k⟩ := h
    refine ⟨_, (pss_one (ps_ret (pe_and (pe_callB call_isi (by rfl) T.isinstance (by decide +kernel) (pa_cons (pv 0) (pa_cons (pe_bltn (v := .ty "int") (u := Value.type "int") (by rfl) T.int (by decide +kernel) rfl) pa_nil))) (pe_one (pe_not (pe_callB call_isi (by rfl) T.isinstance (by decide +kernel) (pa_cons (pv 0) (pa_cons (pe_bltn (v := .ty "bool") (u := Value.type "bool") (by rfl) T.bool (by decide +kernel) rfl) pa_nil)))))))), ?_⟩
    refine ⟨_, rfl, _, _, .type "int", .type "int", true, rfl, .ty _, .base (.int i), kit_ty (by decide +kernel), true, rfl, iteT ?_⟩
    exact ⟨_, rfl, _, _, .type "int", .type "bool", false, rfl, .ty _, .base (.int i), kit_ty (by decide +kernel), false, rfl, k⟩
theorem ok_law_same_items {f : Addr} {fd : FuncData} (F : Fun K "_law_same_items" "_law_same_items" s__law_same_items f fd) (T : Txt K mg) (n : Nat) {f__law_same : Addr} {d__law_same : FuncData} (c__law_same : Cal P w K mg base (2*n) "_law_same" ["actual", "expected"] (spSame K n) f__law_same d__law_same) : FnOk P w K mg base CX0 (2*n+1) f fd ["actual", "expected"] (spItems K n) := by
  refine F.ok sc__law_same_items (fun vs H Q E h => ?_) (fun cdv A outer s H vs Q E hr h => ?_)
  · obtain ⟨p, q, xs, ys, ds, rfl, _⟩ := h
    rfl
  · obtain ⟨p, q, xs, ys, ds, rfl, hp, hq, hx, hy, hd, hl, k⟩ := h
    have lx := hx.length
    have ly := hy.length
    refine ⟨_, (pss_cons (ps_if (pt_cmpR op_ne (pe_callB call_len_seq (by rfl) T.len PySem.boot_len (pa_cons (pv 0) pa_nil)) (pe_callB call_len_seq (by rfl) T.len PySem.boot_len (pa_cons (pv 1) pa_nil)) (nomark _)) (pss_one (ps_ret pe_bl)) pss_nil)
      (pss_cons (ps_for PassesOwn.never rfl (pi_range1 (by rfl) T.range (pa_cons (pe_callB call_len_seq (by rfl) T.len PySem.boot_len (pa_cons (pv 1) pa_nil)) pa_nil)) (pg_name (i := 2) sc__law_same_items.nd rfl (.inl rfl)) (pss_one (ps_if (pt_not (pt_val (pe_call c__law_same.G (hr.mono (by omega)) (by rfl) c__law_same.m c__law_same.k c__law_same.b .nil pass0 (pa_cons (pe_ix ix_seq (pv 0) (pv 2) (fun _ _ => rfl)) (pa_cons (pe_ix ix_seq (pv 1) (pv 2) (fun _ _ => rfl)) pa_nil))))) (pss_one (ps_ret pe_bl)) pss_nil)))
      (pss_one (ps_ret pe_bl)))), ?_⟩
    refine ⟨_, rfl, p, _, rfl, hp.seq, _, rfl, q, _, rfl, hq.seq, rfl, _, rfl, ?_⟩
    rw [lx, ly, decide_eq_true rfl]
    refine iteF ?_
    refine ⟨_, rfl, q, _, rfl, hq.seq, (ds.length : Int), by rw [ly], by omega, by omega, ?_⟩
    refine for_range (n := (ds.length : Int).toNat) (fun i σ H' => H' = H ∧ ∃ y, σ = [some (.ref p), some (.ref q), y]) ⟨rfl, none, rfl⟩ ?_ ?_
    · rintro i σ H' hi ⟨rfl, y, rfl⟩
      have hi : i < ds.length := by omega
      obtain ⟨v, ev, hv⟩ := hx.get (List.getElem?_eq_getElem hi)
      obtain ⟨u, eu, hu⟩ := hy.get (List.getElem?_eq_getElem hi)
      have hm := hd ds[i] (List.getElem_mem hi)
      have e0 : (0 : Int) + (i : Int) = ((i : Nat) : Int) := Int.zero_add _
      have ix : ∀ {a : Addr} {zs : List V} {x : V}, RowAt K H' a zs → zs[i]? = some x → ∀ R : VK, R x H' → rIx K (.ref a) (.int (0 + (i : Int))) H' R := fun {a zs x} h e R r => by
        rw [e0]
        rcases h with h | h
        · exact .inl ⟨a, _, _, _, rfl, rfl, SqL.of h, atI_nat e, r⟩
        · exact .inr (.inl ⟨a, _, _, _, rfl, rfl, SqT.of h, atI_nat e, r⟩)
      refine ⟨_, rfl, _, rfl, ix hp ev _ ?_⟩
      refine ⟨_, rfl, _, rfl, ix hq eu _ ?_⟩
      exact ⟨v, u, ds[i], rfl, hv, hu, hm.1, hm.2, true, rfl, iteF ⟨rfl, _, rfl⟩⟩
    · rintro σ H' ⟨rfl, y, rfl⟩
      exact k
theorem ok_law_same {f : Addr} {fd : FuncData} (F : Fun K "_law_same" "_law_same" s__law_same f fd) (T : Txt K mg) (n : Nat) {f__law_is_integer : Addr} {d__law_is_integer : FuncData} (c__law_is_integer : Cal P w K mg base 1 "_law_is_integer" ["actual"] spIsInt f__law_is_integer d__law_is_integer) {f__law_same_items : Addr} {d__law_same_items : FuncData} (c__law_same_items : Cal P w K mg base (2*n+1) "_law_same_items" ["actual", "expected"] (spItems K n) f__law_same_items d__law_same_items) : FnOk P w K mg base CX0 (2*n+2) f fd ["actual", "expected"] (spSame K (n+1)) := by
  refine F.ok sc__law_same (fun vs H Q E h => ?_) (fun cdv A outer s H vs Q E hr h => ?_)
  · obtain ⟨v, u, d, rfl, _⟩ := h
    rfl
  · obtain ⟨v, u, d, rfl, hv, hu, hd, hn, k⟩ := h
    refine ⟨_, (pss_cons (ps_if (pt_cmpR op_isN (pv 1) pe_non (nomark _)) (pss_one (ps_ret (pe_cmpR op_isN (pv 0) pe_non (nomark _)))) pss_nil)
      (pss_cons (ps_if (pt_val (pe_callB call_isi (by rfl) T.isinstance (by decide +kernel) (pa_cons (pv 1) (pa_cons (pe_bltn (v := .ty "bool") (u := Value.type "bool") (by rfl) T.bool (by decide +kernel) rfl) pa_nil)))) (pss_one (ps_ret (pe_and (pe_callB call_isi (by rfl) T.isinstance (by decide +kernel) (pa_cons (pv 0) (pa_cons (pe_bltn (v := .ty "bool") (u := Value.type "bool") (by rfl) T.bool (by decide +kernel) rfl) pa_nil))) (pe_one (pe_cmpR op_eq (pv 0) (pv 1) (nomark _)))))) pss_nil)
      (pss_cons (ps_if (pt_val (pe_callB call_isi (by rfl) T.isinstance (by decide +kernel) (pa_cons (pv 1) (pa_cons (pe_bltn (v := .ty "int") (u := Value.type "int") (by rfl) T.int (by decide +kernel) rfl) pa_nil)))) (pss_one (ps_ret (pe_and (pe_call c__law_is_integer.G (hr.mono (by omega)) (by rfl) c__law_is_integer.m c__law_is_integer.k c__law_is_integer.b .nil pass0 (pa_cons (pv 0) pa_nil)) (pe_one (pe_cmpR op_eq (pv 0) (pv 1) (nomark _)))))) pss_nil)
      (pss_cons (ps_if (pt_val (pe_callB call_isi (by rfl) T.isinstance (by decide +kernel) (pa_cons (pv 1) (pa_cons (pe_bltn (v := .ty "str") (u := Value.type "str") (by rfl) T.str (by decide +kernel) rfl) pa_nil)))) (pss_one (ps_ret (pe_and (pe_callB call_isi (by rfl) T.isinstance (by decide +kernel) (pa_cons (pv 0) (pa_cons (pe_bltn (v := .ty "str") (u := Value.type "str") (by rfl) T.str (by decide +kernel) rfl) pa_nil))) (pe_one (pe_cmpR op_eq (pv 0) (pv 1) (nomark _)))))) pss_nil)
      (pss_cons (ps_if (pt_val (pe_callB call_isi (by rfl) T.isinstance (by decide +kernel) (pa_cons (pv 1) (pa_cons (pe_bltn (v := .ty "tuple") (u := Value.type "tuple") (by rfl) T.tuple (by decide +kernel) rfl) pa_nil)))) (pss_one (ps_ret (pe_and (pe_callB call_isi (by rfl) T.isinstance (by decide +kernel) (pa_cons (pv 0) (pa_cons (pe_bltn (v := .ty "tuple") (u := Value.type "tuple") (by rfl) T.tuple (by decide +kernel) rfl) pa_nil))) (pe_one (pe_call c__law_same_items.G (hr.mono (by omega)) (by rfl) c__law_same_items.m c__law_same_items.k c__law_same_items.b .nil pass0 (pa_cons (pv 0) (pa_cons (pv 1) pa_nil))))))) pss_nil)
      (pss_cons (ps_if (pt_val (pe_callB call_isi (by rfl) T.isinstance (by decide +kernel) (pa_cons (pv 1) (pa_cons (pe_bltn (v := .ty "list") (u := Value.type "list") (by rfl) T.list (by decide +kernel) rfl) pa_nil)))) (pss_one (ps_ret (pe_and (pe_callB call_isi (by rfl) T.isinstance (by decide +kernel) (pa_cons (pv 0) (pa_cons (pe_bltn (v := .ty "list") (u := Value.type "list") (by rfl) T.list (by decide +kernel) rfl) pa_nil))) (pe_one (pe_call c__law_same_items.G (hr.mono (by omega)) (by rfl) c__law_same_items.m c__law_same_items.k c__law_same_items.b .nil pass0 (pa_cons (pv 0) (pa_cons (pv 1) pa_nil))))))) pss_nil)
      pss_never)))))), ?_⟩
    cases d with
    | non =>
      unfold At at hv hu
      subst hv hu
      exact ⟨_, rfl, rfl, _, rfl, iteT ⟨_, rfl, rfl, k⟩⟩
    | bl b =>
      unfold At at hv hu
      subst hv hu
      refine ⟨_, rfl, rfl, _, rfl, iteF ?_⟩
      refine ⟨_, rfl, _, _, .type "bool", .type "bool", true, rfl, .ty _, .base (.bl b), kit_ty (by decide +kernel), true, rfl, iteT ?_⟩
      refine ⟨_, rfl, _, _, .type "bool", .type "bool", true, rfl, .ty _, .base (.bl b), kit_ty (by decide +kernel), true, rfl, iteT ?_⟩
      refine ⟨_, rfl, _, rfl, rfl, ?_⟩
      rw [decide_eq_true rfl]
      exact k
    | int i =>
      unfold At at hv hu
      subst hv hu
      refine ⟨_, rfl, rfl, _, rfl, iteF ?_⟩
      refine ⟨_, rfl, _, _, .type "int", .type "bool", false, rfl, .ty _, .base (.int i), kit_ty (by decide +kernel), false, rfl, iteF ?_⟩
      refine ⟨_, rfl, _, _, .type "int", .type "int", true, rfl, .ty _, .base (.int i), kit_ty (by decide +kernel), true, rfl, iteT ?_⟩
      refine ⟨_, rfl, i, rfl, true, rfl, iteT ?_⟩
      refine ⟨_, rfl, _, rfl, rfl, ?_⟩
      rw [decide_eq_true rfl]
      exact k
    | str x =>
      unfold At at hv hu
      subst hv hu
      refine ⟨_, rfl, rfl, _, rfl, iteF ?_⟩
      refine ⟨_, rfl, _, _, .type "str", .type "bool", false, rfl, .ty _, .base (.str x), kit_ty (by decide +kernel), false, rfl, iteF ?_⟩
      refine ⟨_, rfl, _, _, .type "str", .type "int", false, rfl, .ty _, .base (.str x), kit_ty (by decide +kernel), false, rfl, iteF ?_⟩
      refine ⟨_, rfl, _, _, .type "str", .type "str", true, rfl, .ty _, .base (.str x), kit_ty (by decide +kernel), true, rfl, iteT ?_⟩
      refine ⟨_, rfl, _, _, .type "str", .type "str", true, rfl, .ty _, .base (.str x), kit_ty (by decide +kernel), true, rfl, iteT ?_⟩
      refine ⟨_, rfl, _, rfl, rfl, ?_⟩
      rw [decide_eq_true rfl]
      exact k
    | tup xs =>
      unfold At at hv hu
      obtain ⟨p, vs, rfl, hp, hx⟩ := hv
      obtain ⟨q, ys, rfl, hq, hy⟩ := hu
      unfold dep at hd
      unfold narrow at hn
      refine ⟨_, rfl, rfl, _, rfl, iteF ?_⟩
      refine ⟨_, rfl, _, _, .type "tuple", .type "bool", false, rfl, .ty _, .base (.tup hq), kit_ty (by decide +kernel), false, rfl, iteF ?_⟩
      refine ⟨_, rfl, _, _, .type "tuple", .type "int", false, rfl, .ty _, .base (.tup hq), kit_ty (by decide +kernel), false, rfl, iteF ?_⟩
      refine ⟨_, rfl, _, _, .type "tuple", .type "str", false, rfl, .ty _, .base (.tup hq), kit_ty (by decide +kernel), false, rfl, iteF ?_⟩
      refine ⟨_, rfl, _, _, .type "tuple", .type "tuple", true, rfl, .ty _, .base (.tup hq), kit_ty (by decide +kernel), true, rfl, iteT ?_⟩
      refine ⟨_, rfl, _, _, .type "tuple", .type "tuple", true, rfl, .ty _, .base (.tup hp), kit_ty (by decide +kernel), true, rfl, iteT ?_⟩
      exact ⟨_, rfl, _, rfl, p, q, vs, ys, xs, rfl, .inr hp, .inr hq, hx, hy, deep_of hd hn.2, hn.1, k⟩
    | lst xs =>
      unfold At at hv hu
      obtain ⟨p, vs, rfl, hp, hx⟩ := hv
      obtain ⟨q, ys, rfl, hq, hy⟩ := hu
      unfold dep at hd
      unfold narrow at hn
      refine ⟨_, rfl, rfl, _, rfl, iteF ?_⟩
      refine ⟨_, rfl, _, _, .type "list", .type "bool", false, rfl, .ty _, .base (.lst hq), kit_ty (by decide +kernel), false, rfl, iteF ?_⟩
      refine ⟨_, rfl, _, _, .type "list", .type "int", false, rfl, .ty _, .base (.lst hq), kit_ty (by decide +kernel), false, rfl, iteF ?_⟩
      refine ⟨_, rfl, _, _, .type "list", .type "str", false, rfl, .ty _, .base (.lst hq), kit_ty (by decide +kernel), false, rfl, iteF ?_⟩
      refine ⟨_, rfl, _, _, .type "list", .type "tuple", false, rfl, .ty _, .base (.lst hq), kit_ty (by decide +kernel), false, rfl, iteF ?_⟩
      refine ⟨_, rfl, _, _, .type "list", .type "list", true, rfl, .ty _, .base (.lst hq), kit_ty (by decide +kernel), true, rfl, iteT ?_⟩
      refine ⟨_, rfl, _, _, .type "list", .type "list", true, rfl, .ty _, .base (.lst hp), kit_ty (by decide +kernel), true, rfl, iteT ?_⟩
      exact ⟨_, rfl, _, rfl, p, q, vs, ys, xs, rfl, .inl hp, .inl hq, hx, hy, deep_of hd hn.2, hn.1, k⟩
/-- nothing can be asked at depth 0 -/
theorem same_none {f : Addr} {fd : FuncData} {ps : List Str} : FnOk P w K mg base CX0 (2*0) f fd ps (spSame K 0) := by
  have no : ∀ vs H Q E, ¬ spSame K 0 vs H Q E := fun vs H Q E h => by
    obtain ⟨v, u, d, _, _, _, h, _⟩ := h
    omega
  exact ⟨fun vs H Q E h => absurd h (no vs H Q E), fun A outer s H args us vs Q E _ _ _ _ h => absurd h (no vs H Q E)⟩
theorem same_all {f1 f2 f3 : Addr} {d1 d2 d3 : FuncData} (T : Txt K mg) (F1 : Fun K "_law_is_integer" "_law_is_integer" s__law_is_integer f1 d1) (b1 : Binds K d1 ["actual"] []) (m1 : mg "_law_is_integer" = some (.ref f1))
    (F2 : Fun K "_law_same_items" "_law_same_items" s__law_same_items f2 d2) (b2 : Binds K d2 ["actual", "expected"] []) (m2 : mg "_law_same_items" = some (.ref f2))
    (F3 : Fun K "_law_same" "_law_same" s__law_same f3 d3) (b3 : Binds K d3 ["actual", "expected"] []) (m3 : mg "_law_same" = some (.ref f3)) :
    ∀ n : Nat, FnOk P w K mg base CX0 (2*n) f3 d3 ["actual", "expected"] (spSame K n)
  | 0 => same_none
  | n + 1 => by
    have ih := same_all T F1 b1 m1 F2 b2 m2 F3 b3 m3 n
    exact ok_law_same F3 T n ⟨ok_law_is_integer F1 T, b1, F1.kp, m1⟩ ⟨ok_law_same_items F2 T n ⟨ih, b3, F3.kp, m3⟩, b2, F2.kp, m2⟩
end
end OS

namespace OS
open PySem PySem.Spec PyProof.Rows L2
theorem one_lt {c d : Nat} : decide ([c] < [d]) = decide (c < d) := decide_eq_decide.mpr (by
  rw [List.cons_lt_cons_iff]
  constructor
  · rintro (h | ⟨_, h⟩)
    · exact h
    · exact absurd h (by simp)
  · exact Or.inl)
theorem le_one {c d : Nat} : (!decide ([c] < [d])) = decide (d ≤ c) := by
  rw [one_lt]
  by_cases h : c < d
  · rw [decide_eq_true h, decide_eq_false (by omega)]; rfl
  · rw [decide_eq_false h, decide_eq_true (by omega)]; rfl
theorem eqv_str (a b : Str) : eqV (.str a) (.str b) = decide (V.str b = V.str a) := by
  show (a == b) = _
  by_cases h : b = a
  · subst h
    rw [decide_eq_true rfl]
    exact beq_self_eq_true b
  · rw [decide_eq_false (fun q => h (by injection q)), beq_eq_false_iff_ne.mpr (fun q => h q.symm)]
theorem long_or (l : List Nat) : tab.long l = (decide (V.str ⟨l.toArray⟩ = V.str (Str.ofString "->")) || decide (V.str ⟨l.toArray⟩ = V.str (Str.ofString "=="))) := by
  show inV (.str ⟨l.toArray⟩) (longsL.map V.str) = _
  unfold inV longsL
  rw [List.map_cons, List.map_cons, List.map_nil, List.any_cons, List.any_cons, List.any_nil, eqv_str, eqv_str, Bool.or_false]
theorem one_eq (c d : Nat) : decide (V.str ⟨#[c]⟩ = V.str ⟨#[d]⟩) = (c == d) := by
  by_cases h : c = d
  · subst h
    rw [decide_eq_true rfl, beq_self_eq_true]
  · rw [decide_eq_false (fun q => h (by
      injection q with q
      injection q with q
      have q := congrArg Array.toList q
      injection q)), beq_eq_false_iff_ne.mpr h]
def rLe : R2 := fun x y H Q => ∃ i j, x = .str i ∧ y = .str j ∧ Q (.bl (!decide (j.cps.toList < i.cps.toList))) H
theorem rd_between {σ : L2.St} {H : Hp} {Q : VK} {i a b c : Nat} {s1 s2 : Str} (h1 : s1.cps.toList = [a]) (h2 : s2.cps.toList = [b]) (hσ : σ[i]? = some (some (.str ⟨#[c]⟩))) (q : Q (.bl (decide (a ≤ c) && decide (c ≤ b))) H) :
    tChain rLe rLe (tC (.str s1)) (tVar i) (tC (.str s2)) σ H Q := by
  refine ⟨_, hσ, s1, _, rfl, rfl, _, congrArg V.bl (show _ = decide (a ≤ c) by rw [h1]; exact le_one), ?_⟩
  refine ite2 (fun h => ?_) (fun h => ?_)
  · rw [h, Bool.true_and] at q
    refine ⟨_, s2, rfl, rfl, ?_⟩
    rw [h2, show (⟨#[c]⟩ : Str).cps.toList = [c] from rfl, le_one]
    exact q
  · rw [Bool.eq_false_iff.mpr h, Bool.false_and] at q
    exact q
section
variable {P : Program} {w : World} {K : PySem.W.Frag} {mg : Str → Option Value} {base : Heap}
/-! ### the law's own tokens -/
def spLetter : Sp := fun vs H Q _ => ∃ c : Nat, vs = [.str ⟨#[c]⟩] ∧ Q (.bl (isLetter c)) H
def spDigit : Sp := fun vs H Q _ => ∃ c : Nat, vs = [.str ⟨#[c]⟩] ∧ Q (.bl (isDigit c)) H
theorem ok_law_letter {f : Addr} {fd : FuncData} (F : Fun K "_law_letter" "_law_letter" s__law_letter f fd) : FnOk P w K mg base CX0 1 f fd ["char"] spLetter := by
  refine F.ok sc__law_letter (fun vs H Q E h => ?_) (fun cdv A outer s H vs Q E hr h => ?_)
  · obtain ⟨c, rfl, _⟩ := h
    rfl
  · obtain ⟨c, rfl, k⟩ := h
    refine ⟨_, (pss_one (ps_ret (pe_or (pe_chain op_le_str op_le_str pe_str (pv 0) pe_str) (pe_one (pe_chain op_le_str op_le_str pe_str (pv 0) pe_str))))), ?_⟩
    unfold isLetter at k
    refine rd_between (Q := fun x H1 => ∃ d, x = V.bl d ∧ if d = true then Q (.bl true) H1 else tChain rLe rLe (tC (.str "A")) (tVar 0) (tC (.str "Z")) (L2.start ["char"] [V.str ⟨#[c]⟩]) H1 Q)
      (i := 0) (a := 97) (b := 122) (c := c) (s1 := "a") (s2 := "z") (σ := L2.start ["char"] [V.str ⟨#[c]⟩]) (H := H) rfl rfl rfl ?_
    refine ⟨_, rfl, ?_⟩
    refine ite2 (fun h => ?_) (fun h => ?_)
    · rw [h, Bool.true_or] at k
      exact k
    · rw [Bool.eq_false_iff.mpr h, Bool.false_or] at k
      exact rd_between (i := 0) (a := 65) (b := 90) rfl rfl rfl k
theorem ok_law_digit {f : Addr} {fd : FuncData} (F : Fun K "_law_digit" "_law_digit" s__law_digit f fd) : FnOk P w K mg base CX0 1 f fd ["char"] spDigit := by
  refine F.ok sc__law_digit (fun vs H Q E h => ?_) (fun cdv A outer s H vs Q E hr h => ?_)
  · obtain ⟨c, rfl, _⟩ := h
    rfl
  · obtain ⟨c, rfl, k⟩ := h
    refine ⟨_, (pss_one (ps_ret (pe_chain op_le_str op_le_str pe_str (pv 0) pe_str))), ?_⟩
    exact rd_between (i := 0) (a := 48) (b := 57) rfl rfl rfl k
def pick (c : Nat) : Nat → Bool := if isDigit c = true then isDigit else isName
def spStretch : Sp := fun vs H Q _ => ∃ (z : Str) (i c : Nat), vs = [.str z, .int i] ∧ z.length ≤ 100000 ∧ z.cps.toList[i]? = some c ∧ Q (.int (run (pick c) z.cps.toList i : Nat)) H
theorem ok_law_stretch {f : Addr} {fd : FuncData} (F : Fun K "_law_stretch" "_law_stretch" s__law_stretch f fd) (T : Txt K mg) {f__law_digit : Addr} {d__law_digit : FuncData} (c__law_digit : Cal P w K mg base 1 "_law_digit" ["char"] spDigit f__law_digit d__law_digit) {f__law_letter : Addr} {d__law_letter : FuncData} (c__law_letter : Cal P w K mg base 1 "_law_letter" ["char"] spLetter f__law_letter d__law_letter) : FnOk P w K mg base CX0 2 f fd ["text", "at"] spStretch := by
  refine F.ok sc__law_stretch (fun vs H Q E h => ?_) (fun cdv A outer s H vs Q E hr h => ?_)
  · obtain ⟨z, i, c, rfl, _⟩ := h
    rfl
  · obtain ⟨z, i, c, rfl, hz, ec, k⟩ := h
    have hzl := len_cps z
    have hi : i < z.cps.toList.length := (List.getElem?_eq_some_iff.mp ec).1
    refine ⟨_, (pss_cons (ps_set (i := 2) sc__law_stretch.nd rfl (.inl rfl) (pv 1))
      (pss_cons (ps_set (i := 3) sc__law_stretch.nd rfl (.inl rfl) (pe_call c__law_digit.G (hr.mono (by decide)) (by rfl) c__law_digit.m c__law_digit.k c__law_digit.b .nil pass0 (pa_cons (pe_ix ix_str (pv 0) (pv 1) (fun _ _ => rfl)) pa_nil)))
      (pss_cons (ps_for PassesOwn.never rfl (pi_str (pe_slice sl_str (pv 0) (po_some (pv 1)) po_none)) (pg_name (i := 4) sc__law_stretch.nd rfl (.inl rfl)) (pss_cons (ps_set (i := 5) sc__law_stretch.nd rfl (.inl rfl) (pe_ifExp (pt_val (pv 3)) (pe_call c__law_digit.G (hr.mono (by decide)) (by rfl) c__law_digit.m c__law_digit.k c__law_digit.b .nil pass0 (pa_cons (pv 4) pa_nil)) (pe_or (pe_call c__law_letter.G (hr.mono (by decide)) (by rfl) c__law_letter.m c__law_letter.k c__law_letter.b .nil pass0 (pa_cons (pv 4) pa_nil)) (pe_or (pe_call c__law_digit.G (hr.mono (by decide)) (by rfl) c__law_digit.m c__law_digit.k c__law_digit.b .nil pass0 (pa_cons (pv 4) pa_nil)) (pe_one (pe_cmpR op_eq (pv 4) pe_str (nomark _)))))))
      (pss_cons (ps_if (pt_not (pt_val (pv 5))) (pss_one (ps_ret (pv 2))) pss_nil)
      (pss_one (ps_set (i := 2) sc__law_stretch.nd rfl (.inl rfl) (pe_op op_add (pv 2) pe_int))))))
      (pss_one (ps_ret (pv 2)))))), ?_⟩
    refine ⟨_, rfl, _, rfl, _, rfl, z, _, c, rfl, rfl, sz6 hz, atI_cps ec, c, rfl, ?_⟩
    refine ⟨_, rfl, _, rfl, _, rfl, z, rfl, sz6 hz, _, rfl, ?_⟩
    rw [cut_from (by omega)]
    refine for_str (fun j σ H' => ∃ y4 y5, σ = [some (.str z), some (.int i), some (.int ((i + j : Nat) : Int)), some (.bl (isDigit c)), y4, y5] ∧ run (pick c) z.cps.toList (i + j) = run (pick c) z.cps.toList i ∧ H' = H)
      ⟨none, none, rfl, rfl, rfl⟩ ?_ ?_
    · rintro j x σ H' hx ⟨y4, y5, rfl, er, rfl⟩
      have hx : z.cps.toList[i + j]? = some x := by
        rw [List.getElem?_drop] at hx
        exact hx
      have ins : ∀ R : VK, R (.bl (pick c x)) H' → tIf (tB (tVar 3)) (tCall spDigit [] E0 (tCons (tVar 4) tNil)) (tOrV (tCall spLetter [] E0 (tCons (tVar 4) tNil)) (tOrV (tCall spDigit [] E0 (tCons (tVar 4) tNil)) (tOp rEq (tVar 4) (tC (.str "_")))))
          [some (.str z), some (.int i), some (.int ((i + j : Nat) : Int)), some (.bl (isDigit c)), some (.str ⟨#[x]⟩), y5] H' R := fun R r => by
        unfold pick at r
        refine ⟨_, rfl, _, rfl, ?_⟩
        refine ite2 (fun h => ?_) (fun h => ?_)
        · rw [if_pos h] at r
          exact ⟨_, rfl, x, rfl, r⟩
        · rw [if_neg h] at r
          unfold isName at r
          refine ⟨_, rfl, x, rfl, _, rfl, ?_⟩
          refine ite2 (fun h1 => ?_) (fun h1 => ?_)
          · rw [h1, Bool.true_or] at r
            exact r
          · rw [Bool.eq_false_iff.mpr h1, Bool.false_or] at r
            refine ⟨_, rfl, x, rfl, _, rfl, ?_⟩
            refine ite2 (fun h2 => ?_) (fun h2 => ?_)
            · rw [h2, Bool.true_or] at r
              exact r
            · rw [Bool.eq_false_iff.mpr h2, Bool.false_or] at r
              refine ⟨_, rfl, rfl, ?_⟩
              rw [show decide (V.str ⟨#[x]⟩ = V.str (Str.ofString "_")) = (x == 95) from one_eq x 95]
              exact r
      refine ins _ ?_
      refine ⟨_, rfl, _, rfl, ?_⟩
      cases e : pick c x with
      | true =>
        refine iteF ⟨_, rfl, _, _, rfl, rfl, ?_⟩
        refine ⟨_, _, rfl, ?_, rfl⟩
        rw [← Nat.add_assoc, ← run_go hx e]
        exact er
      | false =>
        refine iteT ⟨_, rfl, ?_⟩
        rw [← er, run_stop hx e] at k
        exact k
    · rintro σ H' ⟨y4, y5, rfl, er, rfl⟩
      refine ⟨_, rfl, ?_⟩
      rw [← er, run_end] at k
      · exact k
      · show z.cps.toList.length ≤ i + (z.cps.toList.drop i).length
        rw [List.length_drop]
        omega
/-- the token at i, as the law's tuple -/
def tkAt (z : Str) (i : Nat) : Tk := ⟨(tokAt tab z.cps.toList i).1, i, (tokAt tab z.cps.toList i).2⟩
def spLTok : Sp := fun vs H Q _ => ∃ (z : Str) (i : Nat), vs = [.str z, .int i] ∧ z.length ≤ 100000 ∧ i < z.length ∧
  ∀ p H', Same H H' → H p = none → H' p = some (.tup (tkD (tkAt z i))) → Q (.ref p) H'
theorem ok_law_token {f : Addr} {fd : FuncData} (F : Fun K "_law_token" "_law_token" s__law_token f fd) (T : Txt K mg) {f__law_letter : Addr} {d__law_letter : FuncData} (c__law_letter : Cal P w K mg base 1 "_law_letter" ["char"] spLetter f__law_letter d__law_letter) {f__law_digit : Addr} {d__law_digit : FuncData} (c__law_digit : Cal P w K mg base 1 "_law_digit" ["char"] spDigit f__law_digit d__law_digit) {f__law_stretch : Addr} {d__law_stretch : FuncData} (c__law_stretch : Cal P w K mg base 2 "_law_stretch" ["text", "at"] spStretch f__law_stretch d__law_stretch) : FnOk P w K mg base CX0 3 f fd ["text", "at"] spLTok := by
  refine F.ok sc__law_token (fun vs H Q E h => ?_) (fun cdv A outer s H vs Q E hr h => ?_)
  · obtain ⟨z, i, rfl, _⟩ := h
    rfl
  · obtain ⟨z, i, rfl, hz, hi, k⟩ := h
    have hzl := len_cps z
    obtain ⟨c, ec⟩ : ∃ c, z.cps.toList[i]? = some c := ⟨_, List.getElem?_eq_getElem (by omega)⟩
    have hix : atI z.cps.toList (i : Int) = some c := atI_cps ec
    have e3 : tokAt tab z.cps.toList i = if isLetter c = true then
      (if tab.word ((z.cps.toList.drop i).take (run isName z.cps.toList i - i)) = true then .word else .name, run isName z.cps.toList i)
      else if isDigit c = true then (.number, run isDigit z.cps.toList i)
      else if tab.long ((z.cps.toList.drop i).take 2) = true then (.sign, i + 2)
      else (if tab.sign c = true then .sign else .wrong, i + 1) := by
      unfold tokAt
      rw [ec]
    unfold tkAt at k
    rw [e3] at k
    refine ⟨_, (pss_cons (ps_set (i := 2) sc__law_token.nd rfl (.inl rfl) (pe_lst (pa_cons pe_str (pa_cons pe_str (pa_cons pe_str (pa_cons pe_str (pa_cons pe_str (pa_cons pe_str (pa_cons pe_str (pa_cons pe_str (pa_cons pe_str (pa_cons pe_str pa_nil))))))))))))
      (pss_cons (ps_set (i := 3) sc__law_token.nd rfl (.inl rfl) (pe_ix ix_str (pv 0) (pv 1) (fun _ _ => rfl)))
      (pss_cons (ps_if (pt_val (pe_call c__law_letter.G (hr.mono (by decide)) (by rfl) c__law_letter.m c__law_letter.k c__law_letter.b .nil pass0 (pa_cons (pv 3) pa_nil))) (pss_cons (ps_set (i := 4) sc__law_token.nd rfl (.inl rfl) (pe_call c__law_stretch.G (hr.mono (by decide)) (by rfl) c__law_stretch.m c__law_stretch.k c__law_stretch.b .nil pass0 (pa_cons (pv 0) (pa_cons (pv 1) pa_nil))))
      (pss_one (ps_ret (pe_tup (pa_cons (pe_ifExp (pt_cmpR op_in_seq (pe_slice sl_str (pv 0) (po_some (pv 1)) (po_some (pv 4))) (pv 2) (by rfl)) pe_str pe_str) (pa_cons (pv 1) (pa_cons (pv 4) pa_nil))))))) pss_nil)
      (pss_cons (ps_if (pt_val (pe_call c__law_digit.G (hr.mono (by decide)) (by rfl) c__law_digit.m c__law_digit.k c__law_digit.b .nil pass0 (pa_cons (pv 3) pa_nil))) (pss_one (ps_ret (pe_tup (pa_cons pe_str (pa_cons (pv 1) (pa_cons (pe_call c__law_stretch.G (hr.mono (by decide)) (by rfl) c__law_stretch.m c__law_stretch.k c__law_stretch.b .nil pass0 (pa_cons (pv 0) (pa_cons (pv 1) pa_nil))) pa_nil)))))) pss_nil)
      (pss_cons (ps_if (PW.pt (pw_or (pt_cmpR op_eq (pe_slice sl_str (pv 0) (po_some (pv 1)) (po_some (pe_op op_add (pv 1) pe_int))) pe_str (nomark _)) (pw_or1 (pt_cmpR op_eq (pe_slice sl_str (pv 0) (po_some (pv 1)) (po_some (pe_op op_add (pv 1) pe_int))) pe_str (nomark _))))) (pss_one (ps_ret (pe_tup (pa_cons pe_str (pa_cons (pv 1) (pa_cons (pe_op op_add (pv 1) pe_int) pa_nil)))))) pss_nil)
      (pss_one (ps_ret (pe_tup (pa_cons (pe_ifExp (pt_cmpR op_in_sign (pv 3) pe_str (by rfl)) pe_str pe_str) (pa_cons (pv 1) (pa_cons (pe_op op_add (pv 1) pe_int) pa_nil))))))))))), ?_⟩
    refine ⟨by show 10 ≤ sizeLine; decide, fun lW nW => ?_⟩
    have s1 : Same H (upd H lW (.lst (wordsL.map V.str))) := same_upd nW
    have hW : SqL K (upd H lW (.lst (wordsL.map V.str))) lW (wordsL.map V.str) := SqL.of upd_same
    have fin : ∀ (p : Addr) (o : HO), (upd H lW (.lst (wordsL.map V.str))) p = none → Same H (upd (upd H lW (.lst (wordsL.map V.str))) p o) ∧ H p = none := fun p o hp => ⟨s1.trans (same_upd hp), s1.free hp⟩
    refine ⟨_, rfl, _, rfl, z, _, c, rfl, rfl, sz6 hz, hix, ?_⟩
    refine ⟨_, rfl, c, rfl, _, rfl, ?_⟩
    refine ite2 (fun c1 => ?_) (fun c1 => ?_)
    · rw [if_pos c1] at k
      have nd : isDigit c = false := by
        unfold isLetter at c1
        unfold isDigit
        simp only [Bool.or_eq_true, Bool.and_eq_true, decide_eq_true_eq] at c1
        rw [decide_eq_false (show ¬ c ≤ 57 by omega), Bool.and_false]
      refine ⟨_, rfl, _, rfl, z, i, c, rfl, hz, ec, ?_⟩
      have ep : pick c = isName := by unfold pick; rw [nd]; rfl
      rw [ep]
      have hrl := run_le isName z.cps.toList (i := i) (by omega)
      have hrg := le_run isName z.cps.toList i
      refine ⟨_, rfl, _, rfl, _, rfl, _, rfl, _, rfl, z, rfl, sz6 hz, ?_⟩
      rw [cut_mid hrg (by omega)]
      refine ⟨_, rfl, lW, _, rfl, .inl hW, rfl, by decide +kernel, _, rfl, ?_⟩
      show (if tab.word ((z.cps.toList.drop i).take (run isName z.cps.toList i - i)) = true then _ else _)
      refine ite2 (fun c2 => ?_) (fun c2 => ?_)
      · rw [if_pos c2] at k
        exact ⟨_, rfl, _, rfl, by show 3 ≤ sizeLine; decide, fun p hp => k p _ (fin p _ hp).1 (fin p (.tup []) hp).2 upd_same⟩
      · rw [if_neg c2] at k
        exact ⟨_, rfl, _, rfl, by show 3 ≤ sizeLine; decide, fun p hp => k p _ (fin p _ hp).1 (fin p (.tup []) hp).2 upd_same⟩
    · rw [if_neg c1] at k
      refine ⟨_, rfl, c, rfl, _, rfl, ?_⟩
      refine ite2 (fun c2 => ?_) (fun c2 => ?_)
      · rw [if_pos c2] at k
        have ep : pick c = isDigit := by unfold pick; rw [c2]; rfl
        refine ⟨_, rfl, _, rfl, _, rfl, z, i, c, rfl, hz, ec, ?_⟩
        rw [ep]
        exact ⟨by show 3 ≤ sizeLine; decide, fun p hp => k p _ (fin p _ hp).1 (fin p (.tup []) hp).2 upd_same⟩
      · rw [if_neg c2, long_or] at k
        have e2 : cutS z (some (i : Int)) (some ((i : Int) + 2)) = ⟨((z.cps.toList.drop i).take 2).toArray⟩ := by
          rw [show ((i : Int) + 2) = ((i + 2 : Nat) : Int) by omega, cut_mid' (by omega) (by omega), show i + 2 - i = 2 by omega]
        have slice : ∀ R : VK, R (.str ⟨((z.cps.toList.drop i).take 2).toArray⟩) (upd H lW (.lst (wordsL.map V.str))) → tSl rSlS (tVar 0) (tPart (tVar 1)) (tPart (tOp (rI0 fun i j => V.int (i + j)) (tVar 1) (tC (.int 2))))
            [some (.str z), some (.int i), some (.ref lW), some (.str ⟨#[c]⟩), none] (upd H lW (.lst (wordsL.map V.str))) R := fun R r =>
          ⟨_, rfl, _, rfl, _, rfl, _, rfl, _, _, rfl, rfl, _, rfl, z, rfl, sz6 hz, e2 ▸ r⟩
        have two : ∀ b : Bool, b = true → (∀ p H', Same H H' → H p = none → H' p = some (.tup (tkD ⟨(if b = true then (Srt.sign, i + 2) else (if tab.sign c = true then .sign else .wrong, i + 1)).1, i, (if b = true then (Srt.sign, i + 2) else (if tab.sign c = true then .sign else .wrong, i + 1)).2⟩)) → Q (.ref p) H') →
            tTup (tCons (tC (V.str "sign")) (tCons (tVar 1) (tCons (tOp (rI0 fun i j => V.int (i + j)) (tVar 1) (tC (V.int 2))) tNil))) [some (.str z), some (.int i), some (.ref lW), some (.str ⟨#[c]⟩), none] (upd H lW (.lst (wordsL.map V.str))) Q := fun b hb kk => by
          rw [hb] at kk
          exact ⟨_, rfl, _, rfl, _, _, rfl, rfl, by show 3 ≤ sizeLine; decide, fun p hp => kk p _ (fin p _ hp).1 (fin p (.tup []) hp).2 upd_same⟩
        refine slice _ ⟨rfl, _, rfl, ?_⟩
        refine ite2 (fun c3 => ?_) (fun c3 => ?_)
        · exact iteT (two _ (by rw [c3]; rfl) k)
        · refine slice _ ⟨rfl, _, rfl, ?_⟩
          refine ite2 (fun c4 => ?_) (fun c4 => ?_)
          · exact two _ (by rw [c4, Bool.or_true]) k
          · rw [Bool.eq_false_iff.mpr c3, Bool.eq_false_iff.mpr c4] at k
            refine ⟨_, rfl, c, _, rfl, rfl, _, rfl, ?_⟩
            show (if tab.sign c = true then _ else _)
            refine ite2 (fun c5 => ?_) (fun c5 => ?_)
            · rw [if_pos c5] at k
              exact ⟨_, rfl, _, rfl, _, _, rfl, rfl, by show 3 ≤ sizeLine; decide, fun p hp => k p _ (fin p _ hp).1 (fin p (.tup []) hp).2 upd_same⟩
            · rw [if_neg c5] at k
              exact ⟨_, rfl, _, rfl, _, _, rfl, rfl, by show 3 ≤ sizeLine; decide, fun p hp => k p _ (fin p _ hp).1 (fin p (.tup []) hp).2 upd_same⟩
theorem ok_law_tokens {f : Addr} {fd : FuncData} (F : Fun K "_law_tokens" "_law_tokens" s__law_tokens f fd) (T : Txt K mg) {f__law_token : Addr} {d__law_token : FuncData} (c__law_token : Cal P w K mg base 3 "_law_token" ["text", "at"] spLTok f__law_token d__law_token) : FnOk P w K mg base CX0 4 f fd ["text"] spTokens := by
  refine F.ok sc__law_tokens (fun vs H Q E h => ?_) (fun cdv A outer s H vs Q E hr h => ?_)
  · obtain ⟨z, rfl, _⟩ := h
    rfl
  · obtain ⟨z, rfl, hz', k⟩ := h
    have hz : z.length ≤ 100000 := by omega
    have hzl := len_cps z
    refine ⟨_, (pss_cons (ps_set (i := 1) sc__law_tokens.nd rfl (.inl rfl) (pe_lst pa_nil))
      (pss_cons (ps_set (i := 2) sc__law_tokens.nd rfl (.inl rfl) pe_int)
      (pss_cons (ps_set (i := 3) sc__law_tokens.nd rfl (.inl rfl) pe_bl)
      (pss_cons (ps_for PassesOwn.never rfl (pi_range1 (by rfl) T.range (pa_cons (pe_callB call_len_str (by rfl) T.len PySem.boot_len (pa_cons (pv 0) pa_nil)) pa_nil)) (pg_name (i := 4) sc__law_tokens.nd rfl (.inl rfl)) (Evl.pss_cut (ps_if (pt_cmpR op_eq (pe_ix ix_str (pv 0) (pv 4) (fun _ _ => rfl)) pe_str (nomark _)) (pss_one (ps_set (i := 3) sc__law_tokens.nd rfl (.inl rfl) pe_bl)) pss_nil)
      (pss_cons (ps_if (PW.pt (pw_or (pt_cmpR op_lt (pv 4) (pv 2) (nomark _)) (pw_or (pt_val (pv 3)) (pw_or (pt_cmpR op_eq (pe_ix ix_str (pv 0) (pv 4) (fun _ _ => rfl)) pe_str (nomark _)) (pw_or1 (pt_cmpR op_eq (pe_ix ix_str (pv 0) (pv 4) (fun _ _ => rfl)) pe_str (nomark _))))))) (pss_one ps_continue) pss_nil)
      (pss_one (ps_if (pt_cmpR op_eq (pe_ix ix_str (pv 0) (pv 4) (fun _ _ => rfl)) pe_str (nomark _)) (pss_one (ps_set (i := 3) sc__law_tokens.nd rfl (.inl rfl) pe_bl)) (pss_cons (ps_expr (pe_bm PySem.F.plainAttrs_list PySem.F.slot_list_append PySem.F.type_list_append mt_append (pv 1) (pa_cons (pe_call c__law_token.G (hr.mono (by decide)) (by rfl) c__law_token.m c__law_token.k c__law_token.b .nil pass0 (pa_cons (pv 0) (pa_cons (pv 4) pa_nil))) pa_nil)))
      (pss_one (ps_set (i := 2) sc__law_tokens.nd rfl (.inl rfl) (pe_ix ix_tup (pe_ix ix_list (pv 1) (pe_un un_neg pe_int) (fun _ _ => rfl)) pe_int (fun _ _ => rfl))))))))))
      (pss_one (ps_ret (pv 1))))))), ?_⟩
    refine ⟨Nat.zero_le _, fun a na => ?_⟩
    refine ⟨_, rfl, z, rfl, sz6 hz, (z.length : Int), rfl, by omega, by omega, ?_⟩
    refine for_range (n := ((z.length : Int)).toNat) (fun i σ H' => ∃ (L : List Tk) (b : Nat) (cm : Bool) (y : Option V), σ = [some (.str z), some (.ref a), some (.int b), some (.bl cm), y] ∧ Same H H' ∧ TksAt H' a L ∧ L.length ≤ i ∧ (cm = true → b ≤ i) ∧
      ∀ R, Toks tab z.cps.toList (if cm = true then run notNl z.cps.toList i else max i b) R → Toks tab z.cps.toList 0 (L ++ R)) ?_ ?_ ?_
    · exact ⟨[], 0, false, none, rfl, same_upd na, ⟨[], upd_same, .nil⟩, Nat.le_refl _, fun h => (by cases h), fun R h => h⟩
    · rintro i σ H' hi ⟨L, b, cm, y, rfl, sm, ⟨ps, hps, hpl⟩, hL, hcb, ht⟩
      have hi : i < z.length := by omega
      obtain ⟨c, ec⟩ : ∃ c, z.cps.toList[i]? = some c := ⟨_, List.getElem?_eq_getElem (by omega)⟩
      have e0 : (0 : Int) + (i : Int) = ((i : Nat) : Int) := Int.zero_add _
      have hix : atI z.cps.toList ((0 : Int) + (i : Int)) = some c := by rw [e0]; exact atI_cps ec
      have nl : ∀ d : Nat, decide (V.str ⟨#[c]⟩ = V.str ⟨#[d]⟩) = (c == d) := one_eq c
      refine ⟨fun σ' H'' => σ' = [some (.str z), some (.ref a), some (.int b), some (.bl (cm && (c != 10))), some (.int ((0 : Int) + (i : Int)))] ∧ H'' = H', ?_, ?_⟩
      · refine ⟨_, rfl, _, rfl, z, _, c, rfl, rfl, sz6 hz, hix, rfl, _, rfl, ?_⟩
        rw [show decide (V.str ⟨#[c]⟩ = V.str (Str.ofString "\n")) = (c == 10) from nl 10]
        refine ite2 (fun h => ?_) (fun h => ?_)
        · rw [show (c != 10) = false by rw [bne, h]; rfl, Bool.and_false]
          exact ⟨rfl, rfl⟩
        · rw [show (c != 10) = true by rw [bne, Bool.eq_false_iff.mpr h]; rfl, Bool.and_true]
          exact ⟨rfl, rfl⟩
      · rintro σ' H'' ⟨rfl, rfl⟩
        refine ⟨_, rfl, _, rfl, _, _, rfl, rfl, _, rfl, ?_⟩
        refine ite2 (fun c1 => ?_) (fun c1 => ?_)
        · -- inside of a token
          have c1 : ((0 : Int) + (i : Int)) < (b : Int) := of_decide_eq_true c1
          have hib : i < b := by omega
          have hcm : cm = false := by
            cases cm with
            | false => rfl
            | true => have := hcb rfl; omega
          subst hcm
          refine iteT ⟨L, b, false, _, rfl, sm, ⟨ps, hps, hpl⟩, by omega, fun h => (by cases h), fun R h => ht R ?_⟩
          rw [if_neg (by simp)] at h ⊢
          rw [show max i b = max (i + 1) b by omega]
          exact h
        · have c1 : ¬ ((0 : Int) + (i : Int)) < (b : Int) := fun h => c1 (decide_eq_true h)
          have hbi : b ≤ i := by omega
          refine ⟨_, rfl, _, rfl, ?_⟩
          refine ite2 (fun c2 => ?_) (fun c2 => ?_)
          · -- a comment goes on
            have c3 : cm = true ∧ c ≠ 10 := by
              simpa using c2
            obtain ⟨rfl, c3⟩ := c3
            refine iteT ⟨L, b, true && (c != 10), _, rfl, sm, ⟨ps, hps, hpl⟩, by omega, fun _ => by omega, fun R h => ht R ?_⟩
            rw [if_pos c2] at h
            rw [if_pos rfl, run_go ec (by simpa [notNl] using c3)]
            exact h
          · have ht2 : ∀ R, Toks tab z.cps.toList i R → Toks tab z.cps.toList 0 (L ++ R) := fun R h => ht R (by
              cases cm with
              | false =>
                rw [if_neg (by simp), show max i b = i by omega]
                exact h
              | true =>
                have c3 : c = 10 := by
                  simpa using c2
                rw [if_pos rfl, run_stop ec (by rw [c3]; rfl)]
                exact h)
            rw [Bool.eq_false_iff.mpr c2]
            refine ⟨_, rfl, _, rfl, z, _, c, rfl, rfl, sz6 hz, hix, rfl, _, rfl, ?_⟩
            rw [show decide (V.str ⟨#[c]⟩ = V.str (Str.ofString " ")) = (c == 32) from nl 32]
            refine ite2 (fun c3 => ?_) (fun c3 => ?_)
            · refine iteT ⟨L, b, false, _, rfl, sm, ⟨ps, hps, hpl⟩, by omega, fun h => (by cases h), fun R h => ht2 R (.skip ec (.inl (by simpa using c3)) ?_)⟩
              rw [if_neg (by simp), show max (i + 1) b = i + 1 by omega] at h
              exact h
            · refine ⟨_, rfl, _, rfl, z, _, c, rfl, rfl, sz6 hz, hix, rfl, _, rfl, ?_⟩
              rw [show decide (V.str ⟨#[c]⟩ = V.str (Str.ofString "\n")) = (c == 10) from nl 10]
              refine ite2 (fun c4 => ?_) (fun c4 => ?_)
              · refine ⟨L, b, false, _, rfl, sm, ⟨ps, hps, hpl⟩, by omega, fun h => (by cases h), fun R h => ht2 R (.skip ec (.inr (by simpa using c4)) ?_)⟩
                rw [if_neg (by simp), show max (i + 1) b = i + 1 by omega] at h
                exact h
              · refine ⟨_, rfl, _, rfl, z, _, c, rfl, rfl, sz6 hz, hix, rfl, _, rfl, ?_⟩
                rw [show decide (V.str ⟨#[c]⟩ = V.str (Str.ofString "#")) = (c == 35) from nl 35]
                have n1 : ¬ (c = 32 ∨ c = 10) := by
                  simp only [beq_iff_eq] at c3 c4
                  omega
                refine ite2 (fun c5 => ?_) (fun c5 => ?_)
                · have c5 : c = 35 := by simpa using c5
                  refine ⟨L, b, true, _, rfl, sm, ⟨ps, hps, hpl⟩, by omega, fun _ => by omega, fun R h => ht2 R (.note (by rw [← c5]; exact ec) ?_)⟩
                  rw [if_pos rfl] at h
                  rw [run_go ec (by rw [c5]; rfl)]
                  exact h
                · have c5 : c ≠ 35 := by simpa using c5
                  refine ⟨_, rfl, .inl ⟨rfl, _, SqL.of hps⟩, ?_⟩
                  refine ⟨_, rfl, _, rfl, z, i, (by rw [e0]; rfl), hz, hi, fun p H2 s2 np hp => ?_⟩
                  have hps2 := s2 _ _ hps
                  refine ⟨a, _, _, rfl, rfl, hps2, ?_, ?_⟩
                  · rw [List.length_map, hpl.length]
                    exact sz6' (by omega)
                  · have nap : p ≠ a := (ne_of hps2 hp (by intro q; cases q)).symm
                    have hl1 : (upd H2 a (.lst (ps.map V.ref ++ [V.ref p]))) a = some (.lst (ps.map V.ref ++ [V.ref p])) := upd_same
                    have hp1 : (upd H2 a (.lst (ps.map V.ref ++ [V.ref p]))) p = some (.tup (tkD (tkAt z i))) := by rw [upd_ne nap]; exact hp
                    refine ⟨_, rfl, 1, rfl, a, _, _, _, rfl, rfl, SqL.of hl1, atI_last _ _, p, _, _, _, rfl, rfl, SqT.of hp1, atI_nat (j := 2) rfl, ?_⟩
                    have g2 := tokAt_gt tab z.cps.toList i
                    refine ⟨L ++ [tkAt z i], (tokAt tab z.cps.toList i).2, false, _, rfl, ?_, ⟨ps ++ [p], ?_, ?_⟩, ?_, fun h => (by cases h), fun R h => ?_⟩
                    · intro b o e
                      rw [upd_ne (ne_of_none e na)]
                      exact s2 _ _ (sm _ _ e)
                    · rw [upd_same, List.map_append]
                      rfl
                    · exact pa_snoc hp1 (pa_off hps2 (fun b o hb e => by rw [upd_ne hb]; exact e) (pa_same s2 hpl))
                    · rw [List.length_append]
                      show L.length + 1 ≤ i + 1
                      omega
                    · rw [if_neg (by simp), show max (i + 1) (tokAt tab z.cps.toList i).2 = (tokAt tab z.cps.toList i).2 by omega] at h
                      rw [List.append_assoc]
                      exact ht2 _ (.tok ec n1 c5 h)
    · rintro σ H' ⟨L, b, cm, y, rfl, sm, hps, hL, hcb, ht⟩
      refine ⟨_, rfl, k a H' L sm na hps ?_ (by omega)⟩
      have q := ht [] (.done (by
        split
        · rw [run_end (by omega)]
          omega
        · omega))
      rw [List.append_nil] at q
      exact q
end
end OS

namespace OS
open PySem PySem.Spec PyProof.Rows L2
def ch1 : Str := " !#$&'()*+,-./0123456789:;<=>?@ABCDEFGHIJKLMNOPQRSTUVWXYZ[]^_"
def ch2 : Str := "abcdefghijklmnopqrstuvwxyz{|}~\n"
def wds1 : List Str := ["ends ", "a", "b", ", ", "play ", "{", "}", "->", ": ", "go", "(", "1", ")", " as ", "n", " sets ", "=", "=="]
def wds2 : List Str := ["<", "+", "-", "*", "if ", " else ", "while ", "call ", "part ", " asks ", "#", "\n"]
theorem ch_len : (ch1 ++ ch2).length = 92 := by decide +kernel
theorem wds_short : ∀ x ∈ wds1 ++ wds2, x.length ≤ 10 := by decide +kernel
section
variable {P : Program} {w : World} {K : PySem.W.Frag} {mg : Str → Option Value} {base : Heap}
def spChar : Sp := fun vs H Q _ => ∃ d c : Addr, vs = [.ref d] ∧ Tape H d c ∧ ∀ (x : Nat) H', Tape H' d c → Off d H H' → Q (.str ⟨#[x]⟩) H'
theorem ok_law_char {f : Addr} {fd : FuncData} (F : Fun K "_law_char" "_law_char" s__law_char f fd) (T : Txt K mg) {f__law_take : Addr} {d__law_take : FuncData} (c__law_take : Cal P w K mg base 1 "_law_take" ["tape", "many"] spTake f__law_take d__law_take) : FnOk P w K mg base CX0 2 f fd ["tape"] spChar := by
  refine F.ok sc__law_char (fun vs H Q E h => ?_) (fun cdv A outer s H vs Q E hr h => ?_)
  · obtain ⟨d, c, rfl, _⟩ := h
    rfl
  · obtain ⟨d, c, rfl, hT, k⟩ := h
    refine ⟨_, (pss_cons (ps_set (i := 1) sc__law_char.nd rfl (.inl rfl) pe_str)
      (pss_cons (ps_set (i := 1) sc__law_char.nd rfl (.inl rfl) (pe_op op_add_str (pv 1) pe_str))
      (pss_one (ps_ret (pe_ix ix_str (pv 1) (pe_call c__law_take.G (hr.mono (by decide)) (by rfl) c__law_take.m c__law_take.k c__law_take.b .nil pass0 (pa_cons (pv 0) (pa_cons (pe_callB call_len_str (by rfl) T.len PySem.boot_len (pa_cons (pv 1) pa_nil)) pa_nil))) (fun _ _ => rfl)))))), ?_⟩
    refine ⟨_, rfl, ch1, ch2, rfl, rfl, by decide +kernel, ?_⟩
    refine ⟨_, rfl, _, rfl, _, rfl, ch1 ++ ch2, rfl, by decide +kernel, ?_⟩
    rw [ch_len]
    refine ⟨d, c, ((92 : Nat) : Int), rfl, hT, by decide, by decide, fun r H' r0 r1 T' O => ?_⟩
    obtain ⟨i, rfl⟩ := Int.eq_ofNat_of_zero_le r0
    have hi : i < (ch1 ++ ch2).cps.toList.length := by
      rw [← len_cps, ch_len]
      omega
    refine ⟨ch1 ++ ch2, _, _, rfl, rfl, by decide +kernel, atI_nat (List.getElem?_eq_getElem hi), ?_⟩
    exact k _ _ T' O
def spScraps : Sp := fun vs H Q _ => ∃ (d c : Addr) (m : Nat), vs = [.ref d, .int m] ∧ Tape H d c ∧ m ≤ 1000 ∧ ∀ (z : Str) H', z.length ≤ 10 * m → Tape H' d c → Kept d H H' → Q (.str z) H'
theorem ok_law_scraps {f : Addr} {fd : FuncData} (F : Fun K "_law_scraps" "_law_scraps" s__law_scraps f fd) (T : Txt K mg) {f__law_take : Addr} {d__law_take : FuncData} (c__law_take : Cal P w K mg base 1 "_law_take" ["tape", "many"] spTake f__law_take d__law_take) {f__law_char : Addr} {d__law_char : FuncData} (c__law_char : Cal P w K mg base 2 "_law_char" ["tape"] spChar f__law_char d__law_char) : FnOk P w K mg base CX0 3 f fd ["tape", "most"] spScraps := by
  refine F.ok sc__law_scraps (fun vs H Q E h => ?_) (fun cdv A outer s H vs Q E hr h => ?_)
  · obtain ⟨d, c, m, rfl, _⟩ := h
    rfl
  · obtain ⟨d, c, m, rfl, hT, hm, k⟩ := h
    refine ⟨_, (pss_cons (ps_set (i := 2) sc__law_scraps.nd rfl (.inl rfl) (pe_lst (pa_cons pe_str (pa_cons pe_str (pa_cons pe_str (pa_cons pe_str (pa_cons pe_str (pa_cons pe_str (pa_cons pe_str (pa_cons pe_str (pa_cons pe_str (pa_cons pe_str (pa_cons pe_str (pa_cons pe_str (pa_cons pe_str (pa_cons pe_str (pa_cons pe_str (pa_cons pe_str (pa_cons pe_str (pa_cons pe_str pa_nil))))))))))))))))))))
      (pss_cons (ps_set (i := 2) sc__law_scraps.nd rfl (.inl rfl) (pe_op op_cat (pv 2) (pe_lst (pa_cons pe_str (pa_cons pe_str (pa_cons pe_str (pa_cons pe_str (pa_cons pe_str (pa_cons pe_str (pa_cons pe_str (pa_cons pe_str (pa_cons pe_str (pa_cons pe_str (pa_cons pe_str (pa_cons pe_str pa_nil)))))))))))))))
      (pss_cons (ps_set (i := 3) sc__law_scraps.nd rfl (.inl rfl) (pe_lst pa_nil))
      (pss_cons (ps_for PassesOwn.never rfl (pi_range1 (by rfl) T.range (pa_cons (pe_call c__law_take.G (hr.mono (by decide)) (by rfl) c__law_take.m c__law_take.k c__law_take.b .nil pass0 (pa_cons (pv 0) (pa_cons (pe_op op_add (pv 1) pe_int) pa_nil))) pa_nil)) (pg_name (i := 4) sc__law_scraps.nd rfl (.inl rfl)) (pss_one (ps_expr (pe_bm PySem.F.plainAttrs_list PySem.F.slot_list_append PySem.F.type_list_append mt_append (pv 3) (pa_cons (pe_ifExp (pt_cmpR op_eq (pe_call c__law_take.G (hr.mono (by decide)) (by rfl) c__law_take.m c__law_take.k c__law_take.b .nil pass0 (pa_cons (pv 0) (pa_cons pe_int pa_nil))) pe_int (nomark _)) (pe_call c__law_char.G (hr.mono (by decide)) (by rfl) c__law_char.m c__law_char.k c__law_char.b .nil pass0 (pa_cons (pv 0) pa_nil)) (pe_ix ix_list (pv 2) (pe_call c__law_take.G (hr.mono (by decide)) (by rfl) c__law_take.m c__law_take.k c__law_take.b .nil pass0 (pa_cons (pv 0) (pa_cons pe_int pa_nil))) (fun _ _ => rfl))) pa_nil)))))
      (pss_one (ps_ret (pe_join pe_str (pv 3)))))))), ?_⟩
    refine ⟨by show 18 ≤ sizeLine; decide, fun l1 n1 => ?_⟩
    refine ⟨_, rfl, by show 12 ≤ sizeLine; decide, fun l2 n2 => ?_⟩
    have h1 : (upd (upd H l1 (.lst (wds1.map V.str))) l2 (.lst (wds2.map V.str))) l1 = some (.lst (wds1.map V.str)) := by
      rw [upd_ne (fun q => by rw [q] at n2; exact absurd (upd_same.symm.trans (q ▸ n2)) (by simp))]
      exact upd_same
    have s2 : Same H (upd (upd H l1 (.lst (wds1.map V.str))) l2 (.lst (wds2.map V.str))) := (same_upd n1).trans (same_upd n2)
    refine ⟨l1, l2, wds1.map V.str, wds2.map V.str, rfl, rfl, h1, upd_same, by show 30 ≤ sizeLine; decide, fun W nW => ?_⟩
    have nW0 := s2.free nW
    have s3 := s2.trans (same_upd (o := .lst (wds1.map V.str ++ wds2.map V.str)) nW)
    refine ⟨Nat.zero_le _, fun Pt nP => ?_⟩
    have nP0 := s3.free nP
    have s4 := s3.trans (same_upd (o := .lst []) nP)
    have nWP : W ≠ Pt := fun q => by
      rw [← q] at nP
      exact absurd (upd_same.symm.trans nP) (by simp)
    have T4 := hT.keep s4
    have nWd : W ≠ d := (hT.ne nW0).1
    have nP2 := hT.ne nP0
    have nPd : Pt ≠ d := nP2.1
    refine ⟨_, rfl, _, rfl, _, _, rfl, rfl, d, c, (m : Int) + 1, rfl, T4, by omega, by omega, fun r H5 r0 r1 T5 O5 => ?_⟩
    refine ⟨r, rfl, by omega, by omega, ?_⟩
    have hW5 : H5 W = some (.lst ((wds1 ++ wds2).map V.str)) := by
      rw [O5 W nWd, upd_ne nWP, upd_same, List.map_append]
    have hP5 : H5 Pt = some (.lst ([].map V.str)) := by
      rw [O5 Pt nPd, upd_same]
      rfl
    refine for_range (n := r.toNat) (fun i σ H' => ∃ (ys : List Str) (y : Option V), σ = [some (.ref d), some (.int m), some (.ref W), some (.ref Pt), y] ∧ Tape H' d c ∧ H' W = some (.lst ((wds1 ++ wds2).map V.str)) ∧
        H' Pt = some (.lst (ys.map V.str)) ∧ ys.length = i ∧ (∀ y ∈ ys, y.length ≤ 10) ∧ Kept d H H')
      ⟨[], none, rfl, T5, hW5, hP5, rfl, fun y h => (by cases h), (Kept.of s4).trans O5.kept⟩ ?_ ?_
    · rintro i σ H' hi ⟨ys, y, rfl, T', hW, hP, hl, hy, hk⟩
      -- parts.append(x) of a short text x
      have app : ∀ (x : Str) (H2 : Hp), x.length ≤ 10 → Tape H2 d c → Off d H' H2 → ∀ D : Ends, (∀ σ2 H3, (∃ (ys : List Str) (y : Option V), σ2 = [some (.ref d), some (.int m), some (.ref W), some (.ref Pt), y] ∧ Tape H3 d c ∧ H3 W = some (.lst ((wds1 ++ wds2).map V.str)) ∧
          H3 Pt = some (.lst (ys.map V.str)) ∧ ys.length = i + 1 ∧ (∀ y ∈ ys, y.length ≤ 10) ∧ Kept d H H3) → D.nx σ2 H3) →
          rAppend (.ref Pt) [.str x] H2 fun _ H3 => D.nx [some (.ref d), some (.int m), some (.ref W), some (.ref Pt), some (.int (0 + (i : Int)))] H3 := fun x H2 hx T2 O2 D q => by
        have hP2 : H2 Pt = some (.lst (ys.map V.str)) := by rw [O2 Pt nPd]; exact hP
        have hW2 : H2 W = some (.lst ((wds1 ++ wds2).map V.str)) := by rw [O2 W nWd]; exact hW
        refine ⟨Pt, _, _, rfl, rfl, hP2, ?_, ?_⟩
        · rw [List.length_map]
          exact sz6' (by omega)
        · refine q _ _ ⟨ys ++ [x], _, rfl, T2.put nP2, ?_, ?_, ?_, ?_, (hk.trans O2.kept).upd nP0⟩
          · rw [upd_ne nWP]; exact hW2
          · rw [upd_same, List.map_append]
            rfl
          · rw [List.length_append, hl]
            rfl
          · intro u hu
            rcases List.mem_append.mp hu with hu | hu
            · exact hy u hu
            · rw [List.mem_singleton.mp hu]
              exact hx
      refine ⟨_, rfl, .inl ⟨rfl, _, SqL.of hP⟩, ?_⟩
      refine ⟨_, rfl, d, c, 5, rfl, T', by decide, by decide, fun q H1 q0 q1 T1 O1 => ?_⟩
      refine ⟨rfl, _, rfl, ite2 (fun h => ?_) (fun h => ?_)⟩
      · refine ⟨_, rfl, d, c, rfl, T1, fun x H2 T2 O2 => ?_⟩
        exact app ⟨#[x]⟩ H2 (by show 1 ≤ 10; decide) T2 (O1.trans O2) _ fun _ _ h => h
      · refine ⟨_, rfl, _, rfl, d, c, 30, rfl, T1, by decide, by decide, fun v H2 v0 v1 T2 O2 => ?_⟩
        obtain ⟨j, rfl⟩ := Int.eq_ofNat_of_zero_le v0
        have hj : j < (wds1 ++ wds2).length := by
          show j < 30
          omega
        have g : ((wds1 ++ wds2).map V.str)[j]? = some (.str (wds1 ++ wds2)[j]) := by
          rw [List.getElem?_map, List.getElem?_eq_getElem hj]
          rfl
        have hW2 : H2 W = some (.lst ((wds1 ++ wds2).map V.str)) := by
          rw [O2 W nWd, O1 W nWd]
          exact hW
        refine ⟨W, _, _, _, rfl, rfl, SqL.of hW2, atI_nat g, ?_⟩
        exact app _ H2 (wds_short _ (List.getElem_mem hj)) T2 (O1.trans O2) _ fun _ _ h => h
    · rintro σ H' ⟨ys, y, rfl, T', hW, hP, hl, hy, hk⟩
      have ln : (ys.map (·.length)).sum ≤ 10 * m := by
        have : ∀ l : List Str, (∀ y ∈ l, y.length ≤ 10) → (l.map (·.length)).sum ≤ 10 * l.length := fun l => by
          induction l with
          | nil => intro _; exact Nat.le_refl _
          | cons x r ih =>
            intro h
            have h1 := h x (List.mem_cons_self ..)
            have h2 := ih fun y hy => h y (List.mem_cons_of_mem _ hy)
            rw [List.map_cons, List.sum_cons, List.length_cons]
            omega
        have := this ys hy
        omega
      refine ⟨⟨_, rfl⟩, _, rfl, "", Pt, ys, rfl, rfl, .inl (SqL.of hP), ?_, ?_⟩
      · show (ys.map (·.length)).sum + ys.length * 0 ≤ _
        omega
      · refine k _ H' ?_ T' hk
        have e : Txt.join "" ys = Str.join "" ys := StrLaws.glued_eq_join _ _
        rw [e]
        have q := StrLaws.join_length_le "" ys
        have z0 : (Str.ofString "").length = 0 := by decide +kernel
        rw [z0] at q
        omega
end
end OS

namespace OS
open PySem PySem.Spec PyProof.Rows L2
/-- a written tuple of texts -/
structure TupObj (o : Obj) (xs : List Str) : Prop where
  ex : ∃ (its : Array Value) (n : Nat), o.cls = .type "tuple" ∧ o.data = .seq its n ∧ its.size ≤ sizeLine ∧ Vals (xs.map V.str) its.toList
theorem TupObj.seq {K : PySem.W.Frag} {H : Hp} {p : Addr} {o : Obj} {xs : List Str} (v : TupObj o xs) (y : K.lookup p = some o) : SqT K H p (xs.map V.str) := by
  obtain ⟨its, n, h1, h2, h3, h4⟩ := v.ex
  exact .inr ⟨o, its, n, y, h1, h2, h3, h4⟩
def kindS : Srt → Str
  | .word => "word" | .name => "name" | .number => "number" | .sign => "sign" | .wrong => "wrong"
theorem kindV_eq (s : Srt) : kindV s = .str (kindS s) := by cases s <;> rfl
def tkDt (t : Tk) : Dt := .tup [.str (kindS t.s), .int (t.a : Nat), .int (t.b : Nat)]
theorem tk_at {K : PySem.W.Frag} {H : Hp} {p : Addr} {t : Tk} (h : H p = some (.tup (tkD t))) : At K H (tkDt t) (.ref p) := by
  unfold tkDt At
  refine ⟨p, tkD t, rfl, h, ?_⟩
  unfold tkD
  rw [kindV_eq]
  simp only [AtL, At]
  exact ⟨_, _, rfl, rfl, _, _, rfl, rfl, _, _, rfl, rfl, rfl⟩
theorem tks_atL {K : PySem.W.Frag} {H : Hp} : ∀ {ps : List Addr} {L : List Tk}, Paired (fun p t => H p = some (.tup (tkD t))) ps L → AtL K H (L.map tkDt) (ps.map V.ref)
  | _, _, .nil => by
    show AtL K H [] []
    unfold AtL
    rfl
  | _, _, .cons h r => by
    rw [List.map_cons, List.map_cons]
    unfold AtL
    exact ⟨_, _, rfl, tk_at h, tks_atL r⟩
theorem tks_at {K : PySem.W.Frag} {H : Hp} {a : Addr} {L : List Tk} (h : TksAt H a L) : At K H (.lst (L.map tkDt)) (.ref a) := by
  obtain ⟨ps, h1, h2⟩ := h
  unfold At
  exact ⟨a, _, rfl, h1, tks_atL h2⟩
theorem tks_dep : ∀ L : List Tk, depL (L.map tkDt) ≤ 1
  | [] => by show depL [] ≤ 1; unfold depL; omega
  | t :: L => by
    have h := tks_dep L
    show depL (tkDt t :: L.map tkDt) ≤ 1
    unfold depL
    have e : dep (tkDt t) = 1 := by
      unfold tkDt
      simp [dep, depL]
    omega
theorem tks_nar : ∀ L : List Tk, narrowL (L.map tkDt)
  | [] => by show narrowL []; unfold narrowL; trivial
  | t :: L => by
    show narrowL (tkDt t :: L.map tkDt)
    unfold narrowL
    refine ⟨?_, tks_nar L⟩
    unfold tkDt
    simp [narrow, narrowL]
section
variable {P : Program} {w : World} {K : PySem.W.Frag} {mg : Str → Option Value} {base : Heap}
def spLaw (K : PySem.W.Frag) : Sp := fun vs H Q _ => ∃ (a : Addr) (ns : List Int), vs = [.ref a] ∧ SqL K H a (ns.map V.int) ∧ ns.length ≤ 63 ∧ ∀ H', Q (.bl true) H'
theorem ok_law {f : Addr} {fd : FuncData} (F : Fun K "law" "law" s_law f fd) (T : Txt K mg) {f__law_tape : Addr} {d__law_tape : FuncData} (c__law_tape : Cal P w K mg base 1 "_law_tape" ["script"] (spTape K) f__law_tape d__law_tape) {f__law_scraps : Addr} {d__law_scraps : FuncData} (c__law_scraps : Cal P w K mg base 3 "_law_scraps" ["tape", "most"] spScraps f__law_scraps d__law_scraps) {f__law_same : Addr} {d__law_same : FuncData} (c__law_same : Cal P w K mg base 6 "_law_same" ["actual", "expected"] (spSame K 3) f__law_same d__law_same) {f_tokens : Addr} {d_tokens : FuncData} (c_tokens : Cal P w K mg base 3 "tokens" ["text"] spTokens f_tokens d_tokens) {f__law_tokens : Addr} {d__law_tokens : FuncData} (c__law_tokens : Cal P w K mg base 4 "_law_tokens" ["text"] spTokens f__law_tokens d__law_tokens) : FnOk P w K mg base CX0 7 f fd ["script"] (spLaw K) := by
  refine F.ok sc_law (fun vs H Q E h => ?_) (fun cdv A outer s H vs Q E hr h => ?_)
  · obtain ⟨a, ns, rfl, _⟩ := h
    rfl
  · obtain ⟨a, ns, rfl, hS, h63, k⟩ := h
    refine ⟨_, (pss_cons (ps_set (i := 1) sc_law.nd rfl (.inl rfl) (pe_call c__law_tape.G (hr.mono (by decide)) (by rfl) c__law_tape.m c__law_tape.k c__law_tape.b .nil pass0 (pa_cons (pv 0) pa_nil)))
      (pss_cons (ps_for PassesOwn.never rfl (pi_range1 (by rfl) T.range (pa_cons pe_int pa_nil)) (pg_name (i := 2) sc_law.nd rfl (.inl rfl)) (pss_cons (ps_set (i := 3) sc_law.nd rfl (.inl rfl) (pe_call c__law_scraps.G (hr.mono (by decide)) (by rfl) c__law_scraps.m c__law_scraps.k c__law_scraps.b .nil pass0 (pa_cons (pv 1) (pa_cons pe_int pa_nil))))
      (pss_one (ps_if (pt_not (pt_val (pe_call c__law_same.G (hr.mono (by decide)) (by rfl) c__law_same.m c__law_same.k c__law_same.b .nil pass0 (pa_cons (pe_call c_tokens.G (hr.mono (by decide)) (by rfl) c_tokens.m c_tokens.k c_tokens.b .nil pass0 (pa_cons (pv 3) pa_nil)) (pa_cons (pe_call c__law_tokens.G (hr.mono (by decide)) (by rfl) c__law_tokens.m c__law_tokens.k c__law_tokens.b .nil pass0 (pa_cons (pv 3) pa_nil)) pa_nil))))) (pss_one (ps_ret pe_bl)) pss_nil))))
      (pss_one (ps_ret pe_bl)))), ?_⟩
    refine ⟨_, rfl, a, ns, rfl, hS, h63, fun d c H1 s1 nd nc T1 => ?_⟩
    refine ⟨2, rfl, by decide, by decide, for_range (n := 2) (fun i σ H' => ∃ y2 y3, σ = [some (.ref a), some (.ref d), y2, y3] ∧ Tape H' d c) ⟨none, none, rfl, T1⟩ ?_ ?_⟩
    · rintro i σ H' hi ⟨y2, y3, rfl, T'⟩
      refine ⟨_, rfl, d, c, 40, rfl, T', by decide, fun z H2 hz T2 k2 => ?_⟩
      refine ⟨_, rfl, z, rfl, by omega, fun p1 H3 L1 s3 n3 t3 k3 l3 => ?_⟩
      refine ⟨_, rfl, z, rfl, by omega, fun p2 H4 L2' s4 n4 t4 k4 l4 => ?_⟩
      have e : L1 = L2' := k3.det k4
      subst e
      refine ⟨.ref p1, .ref p2, .lst (L1.map tkDt), rfl, At.keep s4 (tks_at t3), tks_at t4, ?_, ?_, true, rfl, iteF ⟨_, _, rfl, (T2.keep s3).keep s4⟩⟩
      · have := tks_dep L1
        unfold dep
        omega
      · unfold narrow
        rw [List.length_map]
        exact ⟨by omega, tks_nar L1⟩
    · rintro σ H' ⟨y2, y3, rfl, T'⟩
      exact k H'
end

theorem all_mk {l : PySem.W.OpenLaw} {w : World} {K : PySem.W.Frag} {h : Heap} {mg : Str → Option Value} {fa : Addr} (X : K.In h) (G : h.Ns mainGlobals mg) (hfa : mg "law" = some (.ref fa))
    {f_run_end : Addr} {od_run_end an_run_end : Option Addr} {sl_run_end : Array (Option Value)} {oc_run_end kV_run_end dc_run_end pm_run_end cd_run_end ct_run_end : Value}
    {f_line_end : Addr} {od_line_end an_line_end : Option Addr} {sl_line_end : Array (Option Value)} {oc_line_end kV_line_end dc_line_end pm_line_end cd_line_end ct_line_end : Value}
    {f_token_at : Addr} {od_token_at an_token_at : Option Addr} {sl_token_at : Array (Option Value)} {oc_token_at kV_token_at dc_token_at pm_token_at cd_token_at ct_token_at : Value}
    {f_tokens : Addr} {od_tokens an_tokens : Option Addr} {sl_tokens : Array (Option Value)} {oc_tokens kV_tokens dc_tokens pm_tokens cd_tokens ct_tokens : Value}
    {f__law_tape : Addr} {od__law_tape an__law_tape : Option Addr} {sl__law_tape : Array (Option Value)} {oc__law_tape kV__law_tape dc__law_tape pm__law_tape cd__law_tape ct__law_tape : Value}
    {f__law_take : Addr} {od__law_take an__law_take : Option Addr} {sl__law_take : Array (Option Value)} {oc__law_take kV__law_take dc__law_take pm__law_take cd__law_take ct__law_take : Value}
    {f__law_is_integer : Addr} {od__law_is_integer an__law_is_integer : Option Addr} {sl__law_is_integer : Array (Option Value)} {oc__law_is_integer kV__law_is_integer dc__law_is_integer pm__law_is_integer cd__law_is_integer ct__law_is_integer : Value}
    {f__law_same_items : Addr} {od__law_same_items an__law_same_items : Option Addr} {sl__law_same_items : Array (Option Value)} {oc__law_same_items kV__law_same_items dc__law_same_items pm__law_same_items cd__law_same_items ct__law_same_items : Value}
    {f__law_same : Addr} {od__law_same an__law_same : Option Addr} {sl__law_same : Array (Option Value)} {oc__law_same kV__law_same dc__law_same pm__law_same cd__law_same ct__law_same : Value}
    {f__law_letter : Addr} {od__law_letter an__law_letter : Option Addr} {sl__law_letter : Array (Option Value)} {oc__law_letter kV__law_letter dc__law_letter pm__law_letter cd__law_letter ct__law_letter : Value}
    {f__law_digit : Addr} {od__law_digit an__law_digit : Option Addr} {sl__law_digit : Array (Option Value)} {oc__law_digit kV__law_digit dc__law_digit pm__law_digit cd__law_digit ct__law_digit : Value}
    {f__law_stretch : Addr} {od__law_stretch an__law_stretch : Option Addr} {sl__law_stretch : Array (Option Value)} {oc__law_stretch kV__law_stretch dc__law_stretch pm__law_stretch cd__law_stretch ct__law_stretch : Value}
    {f__law_token : Addr} {od__law_token an__law_token : Option Addr} {sl__law_token : Array (Option Value)} {oc__law_token kV__law_token dc__law_token pm__law_token cd__law_token ct__law_token : Value}
    {f__law_tokens : Addr} {od__law_tokens an__law_tokens : Option Addr} {sl__law_tokens : Array (Option Value)} {oc__law_tokens kV__law_tokens dc__law_tokens pm__law_tokens cd__law_tokens ct__law_tokens : Value}
    {f__law_char : Addr} {od__law_char an__law_char : Option Addr} {sl__law_char : Array (Option Value)} {oc__law_char kV__law_char dc__law_char pm__law_char cd__law_char ct__law_char : Value}
    {f__law_scraps : Addr} {od__law_scraps an__law_scraps : Option Addr} {sl__law_scraps : Array (Option Value)} {oc__law_scraps kV__law_scraps dc__law_scraps pm__law_scraps cd__law_scraps ct__law_scraps : Value}
    {f_law : Addr} {od_law an_law : Option Addr} {sl_law : Array (Option Value)} {oc_law kV_law dc_law pm_law cd_law ct_law : Value}
    {t_LETTERS : Tok}
    {t_DIGITS : Tok}
    {t_LETTERS_OF_NAMES : Tok}
    {t_SIGNS : Tok}
    {p_WORDS : Addr} {o_WORDS : Obj}
    {p_LONG_SIGNS : Addr} {o_LONG_SIGNS : Obj}
    (a_run_end : PySem.W.nsIn K mainGlobals "run_end" = some (some (.ref f_run_end))) (l_run_end : K.lookup f_run_end = some ⟨oc_run_end, od_run_end, .func (PySem.W.fnOf "run_end" "run_end" (defArgs s_run_end) (defBody s_run_end) (defScope s_run_end) .none kV_run_end dc_run_end pm_run_end an_run_end cd_run_end ct_run_end), sl_run_end⟩) (c_run_end : PySem.W.codeIn K cd_run_end "run_end" = true) (k_run_end : PySem.W.keepIn K (.ref f_run_end) = true)
    (a_line_end : PySem.W.nsIn K mainGlobals "line_end" = some (some (.ref f_line_end))) (l_line_end : K.lookup f_line_end = some ⟨oc_line_end, od_line_end, .func (PySem.W.fnOf "line_end" "line_end" (defArgs s_line_end) (defBody s_line_end) (defScope s_line_end) .none kV_line_end dc_line_end pm_line_end an_line_end cd_line_end ct_line_end), sl_line_end⟩) (c_line_end : PySem.W.codeIn K cd_line_end "line_end" = true) (k_line_end : PySem.W.keepIn K (.ref f_line_end) = true)
    (a_token_at : PySem.W.nsIn K mainGlobals "token_at" = some (some (.ref f_token_at))) (l_token_at : K.lookup f_token_at = some ⟨oc_token_at, od_token_at, .func (PySem.W.fnOf "token_at" "token_at" (defArgs s_token_at) (defBody s_token_at) (defScope s_token_at) .none kV_token_at dc_token_at pm_token_at an_token_at cd_token_at ct_token_at), sl_token_at⟩) (c_token_at : PySem.W.codeIn K cd_token_at "token_at" = true) (k_token_at : PySem.W.keepIn K (.ref f_token_at) = true)
    (a_tokens : PySem.W.nsIn K mainGlobals "tokens" = some (some (.ref f_tokens))) (l_tokens : K.lookup f_tokens = some ⟨oc_tokens, od_tokens, .func (PySem.W.fnOf "tokens" "tokens" (defArgs s_tokens) (defBody s_tokens) (defScope s_tokens) .none kV_tokens dc_tokens pm_tokens an_tokens cd_tokens ct_tokens), sl_tokens⟩) (c_tokens : PySem.W.codeIn K cd_tokens "tokens" = true) (k_tokens : PySem.W.keepIn K (.ref f_tokens) = true)
    (a__law_tape : PySem.W.nsIn K mainGlobals "_law_tape" = some (some (.ref f__law_tape))) (l__law_tape : K.lookup f__law_tape = some ⟨oc__law_tape, od__law_tape, .func (PySem.W.fnOf "_law_tape" "_law_tape" (defArgs s__law_tape) (defBody s__law_tape) (defScope s__law_tape) .none kV__law_tape dc__law_tape pm__law_tape an__law_tape cd__law_tape ct__law_tape), sl__law_tape⟩) (c__law_tape : PySem.W.codeIn K cd__law_tape "_law_tape" = true) (k__law_tape : PySem.W.keepIn K (.ref f__law_tape) = true)
    (a__law_take : PySem.W.nsIn K mainGlobals "_law_take" = some (some (.ref f__law_take))) (l__law_take : K.lookup f__law_take = some ⟨oc__law_take, od__law_take, .func (PySem.W.fnOf "_law_take" "_law_take" (defArgs s__law_take) (defBody s__law_take) (defScope s__law_take) .none kV__law_take dc__law_take pm__law_take an__law_take cd__law_take ct__law_take), sl__law_take⟩) (c__law_take : PySem.W.codeIn K cd__law_take "_law_take" = true) (k__law_take : PySem.W.keepIn K (.ref f__law_take) = true)
    (a__law_is_integer : PySem.W.nsIn K mainGlobals "_law_is_integer" = some (some (.ref f__law_is_integer))) (l__law_is_integer : K.lookup f__law_is_integer = some ⟨oc__law_is_integer, od__law_is_integer, .func (PySem.W.fnOf "_law_is_integer" "_law_is_integer" (defArgs s__law_is_integer) (defBody s__law_is_integer) (defScope s__law_is_integer) .none kV__law_is_integer dc__law_is_integer pm__law_is_integer an__law_is_integer cd__law_is_integer ct__law_is_integer), sl__law_is_integer⟩) (c__law_is_integer : PySem.W.codeIn K cd__law_is_integer "_law_is_integer" = true) (k__law_is_integer : PySem.W.keepIn K (.ref f__law_is_integer) = true)
    (a__law_same_items : PySem.W.nsIn K mainGlobals "_law_same_items" = some (some (.ref f__law_same_items))) (l__law_same_items : K.lookup f__law_same_items = some ⟨oc__law_same_items, od__law_same_items, .func (PySem.W.fnOf "_law_same_items" "_law_same_items" (defArgs s__law_same_items) (defBody s__law_same_items) (defScope s__law_same_items) .none kV__law_same_items dc__law_same_items pm__law_same_items an__law_same_items cd__law_same_items ct__law_same_items), sl__law_same_items⟩) (c__law_same_items : PySem.W.codeIn K cd__law_same_items "_law_same_items" = true) (k__law_same_items : PySem.W.keepIn K (.ref f__law_same_items) = true)
    (a__law_same : PySem.W.nsIn K mainGlobals "_law_same" = some (some (.ref f__law_same))) (l__law_same : K.lookup f__law_same = some ⟨oc__law_same, od__law_same, .func (PySem.W.fnOf "_law_same" "_law_same" (defArgs s__law_same) (defBody s__law_same) (defScope s__law_same) .none kV__law_same dc__law_same pm__law_same an__law_same cd__law_same ct__law_same), sl__law_same⟩) (c__law_same : PySem.W.codeIn K cd__law_same "_law_same" = true) (k__law_same : PySem.W.keepIn K (.ref f__law_same) = true)
    (a__law_letter : PySem.W.nsIn K mainGlobals "_law_letter" = some (some (.ref f__law_letter))) (l__law_letter : K.lookup f__law_letter = some ⟨oc__law_letter, od__law_letter, .func (PySem.W.fnOf "_law_letter" "_law_letter" (defArgs s__law_letter) (defBody s__law_letter) (defScope s__law_letter) .none kV__law_letter dc__law_letter pm__law_letter an__law_letter cd__law_letter ct__law_letter), sl__law_letter⟩) (c__law_letter : PySem.W.codeIn K cd__law_letter "_law_letter" = true) (k__law_letter : PySem.W.keepIn K (.ref f__law_letter) = true)
    (a__law_digit : PySem.W.nsIn K mainGlobals "_law_digit" = some (some (.ref f__law_digit))) (l__law_digit : K.lookup f__law_digit = some ⟨oc__law_digit, od__law_digit, .func (PySem.W.fnOf "_law_digit" "_law_digit" (defArgs s__law_digit) (defBody s__law_digit) (defScope s__law_digit) .none kV__law_digit dc__law_digit pm__law_digit an__law_digit cd__law_digit ct__law_digit), sl__law_digit⟩) (c__law_digit : PySem.W.codeIn K cd__law_digit "_law_digit" = true) (k__law_digit : PySem.W.keepIn K (.ref f__law_digit) = true)
    (a__law_stretch : PySem.W.nsIn K mainGlobals "_law_stretch" = some (some (.ref f__law_stretch))) (l__law_stretch : K.lookup f__law_stretch = some ⟨oc__law_stretch, od__law_stretch, .func (PySem.W.fnOf "_law_stretch" "_law_stretch" (defArgs s__law_stretch) (defBody s__law_stretch) (defScope s__law_stretch) .none kV__law_stretch dc__law_stretch pm__law_stretch an__law_stretch cd__law_stretch ct__law_stretch), sl__law_stretch⟩) (c__law_stretch : PySem.W.codeIn K cd__law_stretch "_law_stretch" = true) (k__law_stretch : PySem.W.keepIn K (.ref f__law_stretch) = true)
    (a__law_token : PySem.W.nsIn K mainGlobals "_law_token" = some (some (.ref f__law_token))) (l__law_token : K.lookup f__law_token = some ⟨oc__law_token, od__law_token, .func (PySem.W.fnOf "_law_token" "_law_token" (defArgs s__law_token) (defBody s__law_token) (defScope s__law_token) .none kV__law_token dc__law_token pm__law_token an__law_token cd__law_token ct__law_token), sl__law_token⟩) (c__law_token : PySem.W.codeIn K cd__law_token "_law_token" = true) (k__law_token : PySem.W.keepIn K (.ref f__law_token) = true)
    (a__law_tokens : PySem.W.nsIn K mainGlobals "_law_tokens" = some (some (.ref f__law_tokens))) (l__law_tokens : K.lookup f__law_tokens = some ⟨oc__law_tokens, od__law_tokens, .func (PySem.W.fnOf "_law_tokens" "_law_tokens" (defArgs s__law_tokens) (defBody s__law_tokens) (defScope s__law_tokens) .none kV__law_tokens dc__law_tokens pm__law_tokens an__law_tokens cd__law_tokens ct__law_tokens), sl__law_tokens⟩) (c__law_tokens : PySem.W.codeIn K cd__law_tokens "_law_tokens" = true) (k__law_tokens : PySem.W.keepIn K (.ref f__law_tokens) = true)
    (a__law_char : PySem.W.nsIn K mainGlobals "_law_char" = some (some (.ref f__law_char))) (l__law_char : K.lookup f__law_char = some ⟨oc__law_char, od__law_char, .func (PySem.W.fnOf "_law_char" "_law_char" (defArgs s__law_char) (defBody s__law_char) (defScope s__law_char) .none kV__law_char dc__law_char pm__law_char an__law_char cd__law_char ct__law_char), sl__law_char⟩) (c__law_char : PySem.W.codeIn K cd__law_char "_law_char" = true) (k__law_char : PySem.W.keepIn K (.ref f__law_char) = true)
    (a__law_scraps : PySem.W.nsIn K mainGlobals "_law_scraps" = some (some (.ref f__law_scraps))) (l__law_scraps : K.lookup f__law_scraps = some ⟨oc__law_scraps, od__law_scraps, .func (PySem.W.fnOf "_law_scraps" "_law_scraps" (defArgs s__law_scraps) (defBody s__law_scraps) (defScope s__law_scraps) .none kV__law_scraps dc__law_scraps pm__law_scraps an__law_scraps cd__law_scraps ct__law_scraps), sl__law_scraps⟩) (c__law_scraps : PySem.W.codeIn K cd__law_scraps "_law_scraps" = true) (k__law_scraps : PySem.W.keepIn K (.ref f__law_scraps) = true)
    (a_law : PySem.W.nsIn K mainGlobals "law" = some (some (.ref f_law))) (l_law : K.lookup f_law = some ⟨oc_law, od_law, .func (PySem.W.fnOf "law" "law" (defArgs s_law) (defBody s_law) (defScope s_law) .none kV_law dc_law pm_law an_law cd_law ct_law), sl_law⟩) (c_law : PySem.W.codeIn K cd_law "law" = true) (k_law : PySem.W.keepIn K (.ref f_law) = true)
    (x_LETTERS : PySem.W.nsIn K mainGlobals "LETTERS" = some (some (.str zLET t_LETTERS)))
    (x_DIGITS : PySem.W.nsIn K mainGlobals "DIGITS" = some (some (.str zDIG t_DIGITS)))
    (x_LETTERS_OF_NAMES : PySem.W.nsIn K mainGlobals "LETTERS_OF_NAMES" = some (some (.str zNAM t_LETTERS_OF_NAMES)))
    (x_SIGNS : PySem.W.nsIn K mainGlobals "SIGNS" = some (some (.str zSIG t_SIGNS)))
    (x_WORDS : PySem.W.nsIn K mainGlobals "WORDS" = some (some (.ref p_WORDS))) (y_WORDS : K.lookup p_WORDS = some o_WORDS) (v_WORDS : TupObj o_WORDS wordsL)
    (x_LONG_SIGNS : PySem.W.nsIn K mainGlobals "LONG_SIGNS" = some (some (.ref p_LONG_SIGNS))) (y_LONG_SIGNS : K.lookup p_LONG_SIGNS = some o_LONG_SIGNS) (v_LONG_SIGNS : TupObj o_LONG_SIGNS longsL)
    (z_len : PySem.W.nsIn K mainGlobals "len" = some none)
    (z_abs : PySem.W.nsIn K mainGlobals "abs" = some none)
    (z_int : PySem.W.nsIn K mainGlobals "int" = some none)
    (z_bool : PySem.W.nsIn K mainGlobals "bool" = some none)
    (z_str : PySem.W.nsIn K mainGlobals "str" = some none)
    (z_list : PySem.W.nsIn K mainGlobals "list" = some none)
    (z_tuple : PySem.W.nsIn K mainGlobals "tuple" = some none)
    (z_dict : PySem.W.nsIn K mainGlobals "dict" = some none)
    (z_isinstance : PySem.W.nsIn K mainGlobals "isinstance" = some none)
    (z_range : PySem.W.nsIn K mainGlobals "range" = some none) :
    ∃ fd : FuncData, (∀ (s : Shared) (v : Value), BindsTo s fd ⟨[v], []⟩ [("script", v)]) ∧ ∀ base : Heap, K.In base → base.Ns mainGlobals mg → FnOk l.prog w K mg base CX0 7 fa fd ["script"] (spLaw K) := by
  have e := hfa.symm.trans (PySem.W.mg_of X G a_law)
  cases e
  have F_run_end := fun_mk (st := s_run_end) l_run_end c_run_end k_run_end
  have b_run_end := F_run_end.binds (ps := ["text", "at", "letters"]) fun _ _ _ _ _ _ us hl => match us, hl with | [_, _, _], _ => rfl
  have m_run_end := PySem.W.mg_of X G a_run_end
  have F_line_end := fun_mk (st := s_line_end) l_line_end c_line_end k_line_end
  have b_line_end := F_line_end.binds (ps := ["text", "at"]) fun _ _ _ _ _ _ us hl => match us, hl with | [_, _], _ => rfl
  have m_line_end := PySem.W.mg_of X G a_line_end
  have F_token_at := fun_mk (st := s_token_at) l_token_at c_token_at k_token_at
  have b_token_at := F_token_at.binds (ps := ["text", "at"]) fun _ _ _ _ _ _ us hl => match us, hl with | [_, _], _ => rfl
  have m_token_at := PySem.W.mg_of X G a_token_at
  have F_tokens := fun_mk (st := s_tokens) l_tokens c_tokens k_tokens
  have b_tokens := F_tokens.binds (ps := ["text"]) fun _ _ _ _ _ _ us hl => match us, hl with | [_], _ => rfl
  have m_tokens := PySem.W.mg_of X G a_tokens
  have F__law_tape := fun_mk (st := s__law_tape) l__law_tape c__law_tape k__law_tape
  have b__law_tape := F__law_tape.binds (ps := ["script"]) fun _ _ _ _ _ _ us hl => match us, hl with | [_], _ => rfl
  have m__law_tape := PySem.W.mg_of X G a__law_tape
  have F__law_take := fun_mk (st := s__law_take) l__law_take c__law_take k__law_take
  have b__law_take := F__law_take.binds (ps := ["tape", "many"]) fun _ _ _ _ _ _ us hl => match us, hl with | [_, _], _ => rfl
  have m__law_take := PySem.W.mg_of X G a__law_take
  have F__law_is_integer := fun_mk (st := s__law_is_integer) l__law_is_integer c__law_is_integer k__law_is_integer
  have b__law_is_integer := F__law_is_integer.binds (ps := ["actual"]) fun _ _ _ _ _ _ us hl => match us, hl with | [_], _ => rfl
  have m__law_is_integer := PySem.W.mg_of X G a__law_is_integer
  have F__law_same_items := fun_mk (st := s__law_same_items) l__law_same_items c__law_same_items k__law_same_items
  have b__law_same_items := F__law_same_items.binds (ps := ["actual", "expected"]) fun _ _ _ _ _ _ us hl => match us, hl with | [_, _], _ => rfl
  have m__law_same_items := PySem.W.mg_of X G a__law_same_items
  have F__law_same := fun_mk (st := s__law_same) l__law_same c__law_same k__law_same
  have b__law_same := F__law_same.binds (ps := ["actual", "expected"]) fun _ _ _ _ _ _ us hl => match us, hl with | [_, _], _ => rfl
  have m__law_same := PySem.W.mg_of X G a__law_same
  have F__law_letter := fun_mk (st := s__law_letter) l__law_letter c__law_letter k__law_letter
  have b__law_letter := F__law_letter.binds (ps := ["char"]) fun _ _ _ _ _ _ us hl => match us, hl with | [_], _ => rfl
  have m__law_letter := PySem.W.mg_of X G a__law_letter
  have F__law_digit := fun_mk (st := s__law_digit) l__law_digit c__law_digit k__law_digit
  have b__law_digit := F__law_digit.binds (ps := ["char"]) fun _ _ _ _ _ _ us hl => match us, hl with | [_], _ => rfl
  have m__law_digit := PySem.W.mg_of X G a__law_digit
  have F__law_stretch := fun_mk (st := s__law_stretch) l__law_stretch c__law_stretch k__law_stretch
  have b__law_stretch := F__law_stretch.binds (ps := ["text", "at"]) fun _ _ _ _ _ _ us hl => match us, hl with | [_, _], _ => rfl
  have m__law_stretch := PySem.W.mg_of X G a__law_stretch
  have F__law_token := fun_mk (st := s__law_token) l__law_token c__law_token k__law_token
  have b__law_token := F__law_token.binds (ps := ["text", "at"]) fun _ _ _ _ _ _ us hl => match us, hl with | [_, _], _ => rfl
  have m__law_token := PySem.W.mg_of X G a__law_token
  have F__law_tokens := fun_mk (st := s__law_tokens) l__law_tokens c__law_tokens k__law_tokens
  have b__law_tokens := F__law_tokens.binds (ps := ["text"]) fun _ _ _ _ _ _ us hl => match us, hl with | [_], _ => rfl
  have m__law_tokens := PySem.W.mg_of X G a__law_tokens
  have F__law_char := fun_mk (st := s__law_char) l__law_char c__law_char k__law_char
  have b__law_char := F__law_char.binds (ps := ["tape"]) fun _ _ _ _ _ _ us hl => match us, hl with | [_], _ => rfl
  have m__law_char := PySem.W.mg_of X G a__law_char
  have F__law_scraps := fun_mk (st := s__law_scraps) l__law_scraps c__law_scraps k__law_scraps
  have b__law_scraps := F__law_scraps.binds (ps := ["tape", "most"]) fun _ _ _ _ _ _ us hl => match us, hl with | [_, _], _ => rfl
  have m__law_scraps := PySem.W.mg_of X G a__law_scraps
  have F_law := fun_mk (st := s_law) l_law c_law k_law
  have b_law := F_law.binds (ps := ["script"]) fun _ _ _ _ _ _ us hl => match us, hl with | [_], _ => rfl
  have m_law := PySem.W.mg_of X G a_law
  have X_LETTERS := PySem.W.mg_of X G x_LETTERS
  have X_DIGITS := PySem.W.mg_of X G x_DIGITS
  have X_LETTERS_OF_NAMES := PySem.W.mg_of X G x_LETTERS_OF_NAMES
  have X_SIGNS := PySem.W.mg_of X G x_SIGNS
  have X_WORDS := PySem.W.mg_of X G x_WORDS
  have X_LONG_SIGNS := PySem.W.mg_of X G x_LONG_SIGNS
  have Z_len := PySem.W.mg_none_of X G z_len
  have Z_abs := PySem.W.mg_none_of X G z_abs
  have Z_int := PySem.W.mg_none_of X G z_int
  have Z_bool := PySem.W.mg_none_of X G z_bool
  have Z_str := PySem.W.mg_none_of X G z_str
  have Z_list := PySem.W.mg_none_of X G z_list
  have Z_tuple := PySem.W.mg_none_of X G z_tuple
  have Z_dict := PySem.W.mg_none_of X G z_dict
  have Z_isinstance := PySem.W.mg_none_of X G z_isinstance
  have Z_range := PySem.W.mg_none_of X G z_range
  have T : Txt K mg := ⟨Z_len, Z_abs, Z_int, Z_bool, Z_str, Z_list, Z_tuple, Z_dict, Z_isinstance, Z_range, ⟨_, X_LETTERS⟩, ⟨_, X_DIGITS⟩, ⟨_, X_LETTERS_OF_NAMES⟩, ⟨_, X_SIGNS⟩, ⟨_, X_WORDS, fun H => v_WORDS.seq y_WORDS⟩, ⟨_, X_LONG_SIGNS, fun H => v_LONG_SIGNS.seq y_LONG_SIGNS⟩⟩
  refine ⟨PySem.W.fnOf "law" "law" (defArgs s_law) (defBody s_law) (defScope s_law) .none kV_law dc_law pm_law an_law cd_law ct_law, fun s v => .of_eq rfl, fun base _ _ => ?_⟩
  have C_tape : Cal l.prog w K mg base 1 _ _ (spTape K) _ _ := ⟨ok_law_tape F__law_tape T, b__law_tape, k__law_tape, m__law_tape⟩
  have C_take : Cal l.prog w K mg base 1 _ _ spTake _ _ := ⟨ok_law_take F__law_take T, b__law_take, k__law_take, m__law_take⟩
  have C_char : Cal l.prog w K mg base 2 _ _ spChar _ _ := ⟨ok_law_char F__law_char T C_take, b__law_char, k__law_char, m__law_char⟩
  have C_scraps : Cal l.prog w K mg base 3 _ _ spScraps _ _ := ⟨ok_law_scraps F__law_scraps T C_take C_char, b__law_scraps, k__law_scraps, m__law_scraps⟩
  have C_same : Cal l.prog w K mg base 6 _ _ (spSame K 3) _ _ := ⟨same_all T F__law_is_integer b__law_is_integer m__law_is_integer F__law_same_items b__law_same_items m__law_same_items F__law_same b__law_same m__law_same 3, b__law_same, k__law_same, m__law_same⟩
  have C_run : Cal l.prog w K mg base 1 _ _ spRun _ _ := ⟨ok_run_end F_run_end T, b_run_end, k_run_end, m_run_end⟩
  have C_line : Cal l.prog w K mg base 1 _ _ spLine _ _ := ⟨ok_line_end F_line_end T, b_line_end, k_line_end, m_line_end⟩
  have C_tokat : Cal l.prog w K mg base 2 _ _ spTokAt _ _ := ⟨ok_token_at F_token_at T C_run, b_token_at, k_token_at, m_token_at⟩
  have C_tokens : Cal l.prog w K mg base 3 _ _ spTokens _ _ := ⟨ok_tokens F_tokens T C_line C_tokat, b_tokens, k_tokens, m_tokens⟩
  have C_let : Cal l.prog w K mg base 1 _ _ spLetter _ _ := ⟨ok_law_letter F__law_letter, b__law_letter, k__law_letter, m__law_letter⟩
  have C_dig : Cal l.prog w K mg base 1 _ _ spDigit _ _ := ⟨ok_law_digit F__law_digit, b__law_digit, k__law_digit, m__law_digit⟩
  have C_str : Cal l.prog w K mg base 2 _ _ spStretch _ _ := ⟨ok_law_stretch F__law_stretch T C_dig C_let, b__law_stretch, k__law_stretch, m__law_stretch⟩
  have C_tok : Cal l.prog w K mg base 3 _ _ spLTok _ _ := ⟨ok_law_token F__law_token T C_let C_dig C_str, b__law_token, k__law_token, m__law_token⟩
  have C_toks : Cal l.prog w K mg base 4 _ _ spTokens _ _ := ⟨ok_law_tokens F__law_tokens T C_tok, b__law_tokens, k__law_tokens, m__law_tokens⟩
  exact ok_law F_law T C_tape C_scraps C_same C_tokens C_toks
theorem walk {l : PySem.W.OpenLaw} {q : Program} {loose : List Str} {XP : (Str → Option Value) → Heap → Prop} {YP : World → Heap → Prop} {d : DefRec} {K : Params → PySem.W.Frag} (hn : l.most = some 63) (hdf : d.params.defaults = [])
    (hY : ∀ (w : World) (h : Heap), YP w h → (K w.params).In h)
    (F : ∀ (w : World) (mg : Str → Option Value) (fa : Addr) (h : Heap), (K w.params).In h → h.Ns mainGlobals mg → mg d.name = some (.ref fa) →
      ∃ fd : FuncData, (∀ (s : Shared) (u : Value), BindsTo s fd ⟨[u], []⟩ [("script", u)]) ∧ ∀ base : Heap, (K w.params).In base → base.Ns mainGlobals mg → FnOk l.prog w (K w.params) mg base CX0 7 fa fd ["script"] (spLaw (K w.params))) :
    PySem.W.WalkO q loose XP YP l.row.toRowW d [] (fun f vs => PySem.call f vs) :=
  L2.walk_of (n := 63) (k := 7) (x := "script") (CX := fun _ => CX0) (sp := fun w => spLaw (K w.params)) hn (by decide) hdf ⟨rfl, by decide, by decide⟩ hY F (fun _ _ a ns hl _ hS => ⟨a, ns, rfl, hS, hl, fun _ => rfl⟩) fun _ _ _ _ _ z => z
end OS
open PySem PySem.W PyProof.Rows in
set_option maxRecDepth 100000 in
set_option maxHeartbeats 0 in
theorem PySem.Challenge.cw_onescore_k01_tokens_of_texts_holds : PySem.Challenge.rw_onescore_k01_tokens_of_texts.Holds := by
  w_on; o_law; k_head; (case hw => w_witness2)
  k_fill
  refine OS.walk (l := PySem.Challenge.rw_onescore_k01_tokens_of_texts) rfl rfl (fun w h Y => PySem.W.kIn_of Y) ?F
  case F =>
    intro w mg fa h KX G hmg
    refine' OS.all_mk KX G hmg ?a_run_end ?l_run_end ?c_run_end ?k_run_end ?a_line_end ?l_line_end ?c_line_end ?k_line_end ?a_token_at ?l_token_at ?c_token_at ?k_token_at ?a_tokens ?l_tokens ?c_tokens ?k_tokens ?a__law_tape ?l__law_tape ?c__law_tape ?k__law_tape ?a__law_take ?l__law_take ?c__law_take ?k__law_take ?a__law_is_integer ?l__law_is_integer ?c__law_is_integer ?k__law_is_integer ?a__law_same_items ?l__law_same_items ?c__law_same_items ?k__law_same_items ?a__law_same ?l__law_same ?c__law_same ?k__law_same ?a__law_letter ?l__law_letter ?c__law_letter ?k__law_letter ?a__law_digit ?l__law_digit ?c__law_digit ?k__law_digit ?a__law_stretch ?l__law_stretch ?c__law_stretch ?k__law_stretch ?a__law_token ?l__law_token ?c__law_token ?k__law_token ?a__law_tokens ?l__law_tokens ?c__law_tokens ?k__law_tokens ?a__law_char ?l__law_char ?c__law_char ?k__law_char ?a__law_scraps ?l__law_scraps ?c__law_scraps ?k__law_scraps ?a_law ?l_law ?c_law ?k_law ?x_LETTERS ?x_DIGITS ?x_LETTERS_OF_NAMES ?x_SIGNS ?x_WORDS ?y_WORDS ?v_WORDS ?x_LONG_SIGNS ?y_LONG_SIGNS ?v_LONG_SIGNS ?z_len ?z_abs ?z_int ?z_bool ?z_str ?z_list ?z_tuple ?z_dict ?z_isinstance ?z_range
    (case a_run_end => k_is)
    (case l_run_end => k_is)
    (case c_run_end => k_is)
    (case k_run_end => k_is)
    (case a_line_end => k_is)
    (case l_line_end => k_is)
    (case c_line_end => k_is)
    (case k_line_end => k_is)
    (case a_token_at => k_is)
    (case l_token_at => k_is)
    (case c_token_at => k_is)
    (case k_token_at => k_is)
    (case a_tokens => k_is)
    (case l_tokens => k_is)
    (case c_tokens => k_is)
    (case k_tokens => k_is)
    (case a__law_tape => k_is)
    (case l__law_tape => k_is)
    (case c__law_tape => k_is)
    (case k__law_tape => k_is)
    (case a__law_take => k_is)
    (case l__law_take => k_is)
    (case c__law_take => k_is)
    (case k__law_take => k_is)
    (case a__law_is_integer => k_is)
    (case l__law_is_integer => k_is)
    (case c__law_is_integer => k_is)
    (case k__law_is_integer => k_is)
    (case a__law_same_items => k_is)
    (case l__law_same_items => k_is)
    (case c__law_same_items => k_is)
    (case k__law_same_items => k_is)
    (case a__law_same => k_is)
    (case l__law_same => k_is)
    (case c__law_same => k_is)
    (case k__law_same => k_is)
    (case a__law_letter => k_is)
    (case l__law_letter => k_is)
    (case c__law_letter => k_is)
    (case k__law_letter => k_is)
    (case a__law_digit => k_is)
    (case l__law_digit => k_is)
    (case c__law_digit => k_is)
    (case k__law_digit => k_is)
    (case a__law_stretch => k_is)
    (case l__law_stretch => k_is)
    (case c__law_stretch => k_is)
    (case k__law_stretch => k_is)
    (case a__law_token => k_is)
    (case l__law_token => k_is)
    (case c__law_token => k_is)
    (case k__law_token => k_is)
    (case a__law_tokens => k_is)
    (case l__law_tokens => k_is)
    (case c__law_tokens => k_is)
    (case k__law_tokens => k_is)
    (case a__law_char => k_is)
    (case l__law_char => k_is)
    (case c__law_char => k_is)
    (case k__law_char => k_is)
    (case a__law_scraps => k_is)
    (case l__law_scraps => k_is)
    (case c__law_scraps => k_is)
    (case k__law_scraps => k_is)
    (case a_law => k_is)
    (case l_law => k_is)
    (case c_law => k_is)
    (case k_law => k_is)
    (case x_LETTERS => k_is)
    (case x_DIGITS => k_is)
    (case x_LETTERS_OF_NAMES => k_is)
    (case x_SIGNS => k_is)
    (case x_WORDS => k_is)
    (case y_WORDS => k_is)
    (case v_WORDS => (exact ⟨_, _, rfl, rfl, by decide, by repeat (first | exact .nil | refine .cons ⟨_, rfl⟩ ?_)⟩))
    (case x_LONG_SIGNS => k_is)
    (case y_LONG_SIGNS => k_is)
    (case v_LONG_SIGNS => (exact ⟨_, _, rfl, rfl, by decide, by repeat (first | exact .nil | refine .cons ⟨_, rfl⟩ ?_)⟩))
    (case z_len => k_is)
    (case z_abs => k_is)
    (case z_int => k_is)
    (case z_bool => k_is)
    (case z_str => k_is)
    (case z_list => k_is)
    (case z_tuple => k_is)
    (case z_dict => k_is)
    (case z_isinstance => k_is)
    (case z_range => k_is)
